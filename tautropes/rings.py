"""Closed walks: their rings, names and roots, and which lead to one another."""

from tautropes.errors import Apart, Nothing
from tautropes.walks import behind, need_closed, shrunk, turned


def core(walk):
    """The tuple (stem, ring) of a closed walk."""
    need_closed(walk)
    ring = shrunk(walk)
    stem = ring[:1]
    while len(ring) > 1 and ring[1] == ring[-2]:
        ring = ring[1:-1]
        stem = stem + ring[:1]
    return stem, ring


def _rounds(ring):
    """The ring begun at each of its places."""
    return [ring[place:-1] + ring[:place + 1] for place in range(len(ring) - 1)]


def named(walk):
    """The name of a closed walk: the least of its ring's rounds, or () where it is nothing."""
    _, ring = core(walk)
    if len(ring) == 1:
        return ()
    return min(_rounds(ring))


def root(walk):
    """The tuple (root, times) of a closed walk that isn't nothing."""
    stem, ring = core(walk)
    if len(ring) == 1:
        raise Nothing()
    # behind all its steps the ring begins again, so there always is a fewest number behind which it does
    fewest = (_rounds(ring)[1:] + [ring]).index(ring) + 1
    return stem + ring[1:fewest + 1] + turned(stem)[1:], (len(ring) - 1) // fewest


def led_by(walk, lead):
    """The closed walk to which the lead leads this closed one."""
    need_closed(walk)
    return behind(behind(turned(lead), walk), lead)


def leader(house, one, other):
    """A shrunk walk that leads the one closed walk to the other, or None."""
    need_closed(one)
    need_closed(other)
    if named(one) != named(other):
        return None
    stem, ring = core(one)
    goal, round_there = core(other)
    if len(ring) == 1:
        return house.way(one[0], other[0])
    place = _rounds(ring).index(round_there)
    return behind(behind(stem, ring[:place + 1]), turned(goal))


def go_together(one, other):
    """Whether two closed walks of one room are the same, one behind the other, either way about."""
    need_closed(one)
    need_closed(other)
    if one[0] != other[0]:
        raise Apart()
    return behind(one, other) == behind(other, one)
