"""Walks: tuples of rooms, each beside the one ahead of it."""

from tautropes.errors import Apart, NotClosed


def is_walk(house, thing):
    """Of anything: whether it is a walk of this house."""
    if not isinstance(thing, tuple) or len(thing) == 0:
        return False
    if not all([house.has_room(room) for room in thing]):
        return False
    return all([house.has_door(one, other) for one, other in zip(thing, thing[1:])])


def shrunk(walk):
    """The walk without what goes straight back."""
    kept = []
    for room in walk:
        if len(kept) > 1 and kept[-2] == room:
            kept.pop()
        else:
            kept.append(room)
    return tuple(kept)


def turned(walk):
    """The walk read from behind."""
    return tuple(walk[::-1])


def behind(one, other):
    """The first walk, then the other one from its end, shrunk."""
    if one[-1] != other[0]:
        raise Apart()
    return shrunk(one + other[1:])


def need_closed(walk):
    """Refuse a walk that doesn't end where it begins."""
    if walk[0] != walk[-1]:
        raise NotClosed()
