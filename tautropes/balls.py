"""Balls: houses of all short walks from one room."""

from tautropes.errors import TooMany
from tautropes.house import House
from tautropes.pairs import LETTERS

MOST_ROOMS = 40


def ball(house, room, steps):
    """The house of all shrunk walks from this room of at most so many steps, and a dict from its rooms to these."""
    house.need_room(room)
    walks = _short_walks(house, room, steps)
    names = [_name(number) for number in range(len(walks))]
    doors = [(names[walks.index(walk[:-1])], name) for name, walk in zip(names, walks) if len(walk) > 1]
    return House(names, doors), dict(zip(names, walks))


def _short_walks(house, room, steps):
    """All shrunk walks from this room of at most so many steps, a list by their steps, then rising."""
    walks = [(room,)]
    edge = [(room,)]
    for _ in range(steps):
        edge = sorted([walk + (other,) for walk in edge for other in house.beside(walk[-1])
                       if other not in walk[-2:]])
        walks = walks + edge
        if len(walks) > MOST_ROOMS:
            raise TooMany(MOST_ROOMS)
    return walks


def _name(number):
    """The name of the room of this number: a, b, .., z, aa, ab, .."""
    if number < len(LETTERS):
        return LETTERS[number]
    return "a" + LETTERS[number - len(LETTERS)]
