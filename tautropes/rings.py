"""Closed walks: their rings, names and roots, and which lead to one another."""

from tautropes.errors import Apart, Nothing
from tautropes.walks import behind, need_closed, shrunk, turned


def core(walk):
    """The tuple (stem, ring) of a closed walk."""
    need_closed(walk)
    ring = shrunk(walk)
    stem = ring[:1]
    while len(ring) > 1 and ring[1] == ring[-2]:
        ring = ring[1:-1]
        stem = stem + ring[:1]
    return stem, ring


def _rounds(ring):
    """The ring begun at each of its places."""
    return [ring[place:-1] + ring[:place + 1] for place in range(len(ring) - 1)]


def named(walk):
    """The name of a closed walk: the least of its ring's rounds, or () where it is nothing."""
    _, ring = core(walk)
    if len(ring) == 1:
        return ()
    return min(_rounds(ring))


def root(walk):
    """The tuple (root, times) of a closed walk that isn't nothing."""
    stem, ring = core(walk)
    if len(ring) == 1:
        raise Nothing()
    # behind all its steps the ring begins again, so there always is a fewest number behind which it does
    fewest = (_rounds(ring)[1:] + [ring]).index(ring) + 1
    return stem + ring[1:fewest + 1] + turned(stem)[1:], (len(ring) - 1) // fewest


def led_by(walk, lead):
    """The closed walk to which the lead leads this closed one."""
    need_closed(walk)
    return behind(behind(turned(lead), walk), lead)


def leader(house, one, other):
    """A shrunk walk that leads the one closed walk to the other, or None."""
    need_closed(one)
    need_closed(other)
    if named(one) != named(other):
        return None
    stem, ring = core(one)
    goal, round_there = core(other)
    if len(ring) == 1:
        return house.way(one[0], other[0])
    place = _rounds(ring).index(round_there)
    return behind(behind(stem, ring[:place + 1]), turned(goal))


def go_together(one, other):
    """Whether two closed walks of one room are the same, one behind the other, either way about."""
    need_closed(one)
    need_closed(other)
    if one[0] != other[0]:
        raise Apart()
    return behind(one, other) == behind(other, one)


def all_leaders(house, begin, end, pairs):
    """All walks from one room to another that lead the first of each pair of closed walks to the second.

    The walks of the pairs are shrunk, from the begin and from the end. Told is ("all",), ("one", walk),
    ("turns", walk, root), or ("none", numbers): the numbers of at most three pairs that no walk leads
    together, () where the rooms don't hang together.
    """
    if house.way(begin, end) is None:
        return "none", ()
    for number, (one, other) in enumerate(pairs):
        if named(one) != named(other):
            return "none", (number,)
    rings = [number for number, pair in enumerate(pairs) if len(pair[0]) > 1]
    if not rings:
        return ("all",)
    return _leaders_with(house, pairs, rings[0])


def _leaders_with(house, pairs, first):
    """All leaders where the first of this pair isn't nothing, and each pair has one name."""
    walk = leader(house, pairs[first][0], pairs[first][1])
    turn, _ = root(pairs[first][0])
    # what goes together with the turn is led alike behind each number of turns, what doesn't by one number at most
    alike = [number for number, pair in enumerate(pairs) if go_together(turn, pair[0])]
    others = [number for number, pair in enumerate(pairs) if not go_together(turn, pair[0])]
    wrong = _not_led(pairs, alike, walk)
    if wrong:
        return "none", (first, wrong[0])
    if not others:
        return "turns", walk, turn
    walk = _behind_turns(pairs[others[0]], turn, walk)
    if walk is None:
        return "none", (first, others[0])
    wrong = _not_led(pairs, others, walk)
    if wrong:
        return "none", (first, others[0], wrong[0])
    return "one", walk


def _not_led(pairs, numbers, walk):
    return [number for number in numbers if led_by(pairs[number][0], walk) != pairs[number][1]]


def _behind_turns(pair, turn, walk):
    """So many turns, then the walk, such that they lead this pair's first to its second, or None.

    The first doesn't go together with the turn.
    """
    stem, _ = core(turn)
    first = led_by(pair[0], stem)
    goal = led_by(led_by(pair[1], turned(walk)), stem)
    for way in (turn, turned(turn)):
        ring = led_by(way, stem)
        now, onward = first, walk
        # round a ring it grows by no less than at the turn before: once longer than at first it ever grows on
        while len(now) <= max(len(first), len(goal)):
            if now == goal:
                return onward
            now, onward = led_by(now, ring), behind(way, onward)
    return None
