"""Walks and rings counted and listed; closed walks spelled by spare doors."""

from tautropes.errors import TooMany
from tautropes.pairs import neighbours, path, tree_and_spare
from tautropes.rings import named
from tautropes.walks import need_closed, shrunk

MOST_RINGS = 2000


def count_walks(house, one, other, steps):
    """How many shrunk walks of so many steps lead from one room to the other."""
    house.need_room(one)
    house.need_room(other)
    if steps == 0:
        return 1 if one == other else 0
    near = {room: house.beside(room) for room in house.rooms()}
    # a walk goes on by where it is and where it came from: only straight back it may not go
    last = {(one, room): 1 for room in near[one]}
    for _ in range(steps - 1):
        last = _one_step_on(near, last)
    return sum([last[step] for step in last if step[1] == other])


def _one_step_on(near, last):
    """Shrunk walks counted by their last steps, one step longer than those counted."""
    ending = {room: 0 for room in near}
    for step in last:
        ending[step[1]] += last[step]
    longer = {}
    for room in near:
        for onward in near[room]:
            longer[(room, onward)] = ending[room] - last.get((onward, room), 0)
    return longer


def all_rings(house, steps):
    """The names of all rings of so many steps, rising."""
    found = []
    for begin in house.rooms():
        # a name begins with its least room
        rooms = [room for room in house.rooms() if room >= begin]
        near = {room: [other for other in house.beside(room) if other >= begin] for room in rooms}
        for second in near[begin]:
            home = _homeward(near, begin, second, steps)
            if steps > 0 and (begin, second) in home[steps]:
                _go_round(near, home, (begin, second), found)
    return found


def _homeward(near, begin, second, steps):
    """At each number: the steps from which so many more, none straight back, end with the first step again."""
    home = [{(begin, second): True}]
    for _ in range(steps):
        ahead = {}
        for one, other in home[-1]:
            for room in near[one]:
                if room != other:
                    ahead[(room, one)] = True
        home.append(ahead)
    return home


def _go_round(near, home, walk, found):
    """Put behind those found all names that begin with this walk, which some ring does."""
    left = len(home) - len(walk)
    if left == 0:
        # a ring begun at another of its places has another name than itself
        if named(walk) == walk:
            found.append(walk)
        if len(found) > MOST_RINGS:
            raise TooMany(MOST_RINGS)
        return
    for room in near[walk[-1]]:
        if room != walk[-2] and (walk[-1], room) in home[left]:
            _go_round(near, home, walk + (room,), found)


def spare_doors(house):
    """The doors beside the tree, a list, rising."""
    _, spare = tree_and_spare(house.rooms(), house.doors())
    return spare


def spelled(house, walk):
    """The spelling of a closed walk: a list of tuples (number, way)."""
    need_closed(walk)
    signs = {}
    for number, (lesser, greater) in enumerate(spare_doors(house)):
        signs[(lesser, greater)] = (number, 1)
        signs[(greater, lesser)] = (number, -1)
    short = shrunk(walk)
    return [signs[step] for step in zip(short, short[1:]) if step in signs]


def read_off(house, room, spelling):
    """The closed walk of this room, shrunk, that has this spelling."""
    house.need_room(room)
    tree, spare = tree_and_spare(house.rooms(), house.doors())
    near = neighbours(house.rooms(), tree)
    rooms = [room]
    for number, way in spelling:
        lesser, greater = spare[number]
        door = [lesser, greater] if way == 1 else [greater, lesser]
        rooms.extend(path(near, rooms[-1], door[0])[1:])
        rooms.append(door[1])
    rooms.extend(path(near, rooms[-1], room)[1:])
    return shrunk(rooms)
