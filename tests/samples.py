"""What many tests hand in and hold answers against: things, houses, companies, plain searches."""

from itertools import product

from tautropes.company import Company
from tautropes.house import House


def nested(depth):
    thing = "a"
    for turn in range(depth):
        thing = [[thing], (thing,), {"a": thing}][turn % 3]
    return thing


def no_names():
    """Things of every kind that are no name."""
    return [
        None, True, False, 0, 1, -1, 10 ** 30 - 1, -(10 ** 30) + 1,
        "", "A", "aB", "a b", " a", "a ", "a\n", "\n", "abcdefghi", "a1", "1", "~", "a_b", "{}",
        (), ("a",), ("a", "b"), ("a", "b", "c"), (("a", "b"),), (None, None), (1, 2), ("a", ["b"]),
        [], ["a"], ["a", "b"], [["a"], ["b"]], [None], [{}, {}], [{"a": "b"}, ("a",)],
        {}, {"a": "b"}, {"a": "a", "b": "b"}, {1: 2}, {None: ()}, {(): []}, {("a", "b"): {"a": {}}},
        nested(8), nested(7), nested(6),
    ]


def anything():
    """Things of every kind, names too."""
    return no_names() + ["a", "b", "z", "abcdefgh"]


def tangled(rooms, doors):
    """The same rooms and doors, in other orders, as lists and as tuples, either way about."""
    yield list(rooms), list(doors)
    yield tuple(rooms), tuple(doors)
    yield list(rooms)[::-1], [list(door) for door in doors][::-1]
    yield tuple(rooms)[::-1], tuple(tuple(door)[::-1] for door in doors)
    yield list(rooms)[1:] + list(rooms)[:1], [list(door)[::-1] for door in doors[1:] + doors[:1]]


def ring_of(names):
    return [(names[k - 1], names[k]) for k in range(len(names))]


def one_room():
    return House(["a"], [])


def square():
    return House(list("abcd"), ring_of("abcd"))


def tree():
    return House(list("abcdef"), [("a", "b"), ("b", "c"), ("b", "d"), ("d", "e"), ("e", "f")])


def two_rings():
    """Two rings of four that meet in room d."""
    return House(list("abcdefg"), ring_of("abcd") + ring_of("defg"))


def grid():
    """Six rooms in two rows of three: two rings of four with a door in common."""
    return House(list("abcdef"), [("a", "b"), ("b", "c"), ("d", "e"), ("e", "f"), ("a", "d"), ("b", "e"), ("c", "f")])


def parts():
    """A ring of five, a row of three, and a room alone."""
    return House(list("abcdevxyz"), ring_of("abcde") + [("x", "y"), ("y", "z")])


def many_rooms():
    """Forty rooms with eighty doors: a ring of forty, and doors across it without threes."""
    names = [one + other for one in "abcdefgh" for other in "vwxyz"]
    across = [(names[k], names[(k + 7) % 40]) for k in range(40)]
    return House(names, ring_of(names) + across)


def two_hubs():
    """Two rooms, each with a door to each of thirty-eight others."""
    names = [one + other for one in "abcdefgh" for other in "vwxyz"][:38]
    return House(["zz", "zy"] + names, [(hub, name) for hub in ("zz", "zy") for name in names])


def tailed():
    """A ring of four with a row of two rooms at its room a."""
    return House(list("abcdpq"), ring_of("abcd") + [("a", "p"), ("p", "q")])


def sheaf(middle="xyz"):
    """Two rooms, a and b, each with a door to each of those in the middle."""
    return House(["a", "b"] + list(middle), [(hub, room) for hub in "ab" for room in middle])


def houses():
    return [one_room(), square(), tree(), two_rings(), grid(), parts()]


def walks_of(house, begin, steps):
    """All walks of so many steps from a room, straight back too."""
    found = [(begin,)]
    for _ in range(steps):
        found = [walk + (room,) for walk in found for room in house.beside(walk[-1])]
    return found


def closed_walks(house, begin, most):
    """All closed walks of at most so many steps from a room."""
    return [walk for steps in range(most + 1) for walk in walks_of(house, begin, steps) if walk[0] == walk[-1]]


def goes_straight_back(walk):
    return any(walk[k] == walk[k + 2] for k in range(len(walk) - 2))


def all_dicts(keys, values):
    """All dicts from just these keys to these values."""
    return [dict(zip(keys, row)) for row in product(values, repeat=len(keys))]


def row_of(names):
    return list(zip(names, names[1:]))


def ropes_in_a_row(folk, posts=()):
    return Company(list(folk), row_of(folk), posts)


def ropes_in_a_ring(folk, posts=()):
    return Company(list(folk), ring_of(folk), posts)


def standing_of(folk, rooms):
    """The folk in the rooms, one by one."""
    assert len(folk) == len(rooms)
    return dict(zip(folk, rooms))


def fits(house, company, standing):
    """The plain words of what a standing is, of a dict from all folk to rooms."""
    doors = house.doors()
    for one, other in company.ropes():
        pair = (standing[one], standing[other])
        if pair[0] != pair[1] and pair not in doors and pair[::-1] not in doors:
            return False
    return True


def all_standings(house, company):
    return [thing for thing in all_dicts(company.folk(), house.rooms()) if fits(house, company, thing)]


def rooms_by(company, standing):
    """A standing as a tuple of rooms in the order of folk."""
    return tuple(standing[who] for who in company.folk())


def one_going_on(house, company, rooms, still=()):
    """All (folk, rooms) by one plain going of one who isn't still, standings as tuples of rooms."""
    folk = company.folk()
    for place, who in enumerate(folk):
        if who in company.posts() or who in still:
            continue
        near = [rooms[folk.index(other)] for other in company.roped(who)]
        for room in house.beside(rooms[place]):
            beside = house.beside(room)
            if all(other == room or other in beside for other in near):
                yield who, rooms[:place] + (room,) + rooms[place + 1:]


def reach(house, company, standing, still=()):
    """A dict from all standings that can be come to, tuples of rooms, to the fewest goings."""
    begin = rooms_by(company, standing)
    found = {begin: 0}
    edge = [begin]
    while edge:
        ahead = []
        for rooms in edge:
            for _, other in one_going_on(house, company, rooms, still):
                if other not in found:
                    found[other] = found[rooms] + 1
                    ahead.append(other)
        edge = ahead
    return found


def plain_shrunk(walk):
    """A walk from which what goes straight back is taken out, from its end on."""
    walk = list(walk)
    place = len(walk) - 3
    while place >= 0:
        if walk[place] == walk[place + 2]:
            del walk[place + 1:place + 3]
            place = len(walk) - 2
        place -= 1
    return tuple(walk)


def plain_read(standing, rope_walk):
    rooms = [standing[who] for who in rope_walk]
    return tuple(room for place, room in enumerate(rooms) if place == 0 or rooms[place - 1] != room)


def shrunk_walks(house, begin, end, most):
    """All shrunk walks of at most so many steps from a room to a room."""
    found = []
    edge = [(begin,)]
    for _ in range(most + 1):
        found += [walk for walk in edge if walk[-1] == end]
        edge = [walk + (room,) for walk in edge for room in house.beside(walk[-1])
                if len(walk) == 1 or walk[-2] != room]
    return found


def rope_walks(company, begin, most):
    """All rope-walks of at most so many ropes from a folk."""
    found = [(begin,)]
    edge = [(begin,)]
    for _ in range(most):
        edge = [walk + (who,) for walk in edge for who in company.roped(walk[-1])]
        found += edge
    return found


def plainly_taut(standing, walk):
    rooms = [standing[who] for who in walk]
    if len(rooms) < 2:
        return False
    for place in range(len(rooms)):
        if rooms[place] in rooms[place + 1:place + 3]:
            return False
    return True


def plainly_goes_on(company, standing, walk):
    if not plainly_taut(standing, walk):
        return False
    again = [place for place in range(len(walk) - 2) if walk[place:place + 2] == walk[-2:]]
    return walk[-1] in company.posts() or len(again) > 0


def can_go_on(company, standing, walk):
    """Whether any rope-walk that begins so goes on."""
    if not plainly_taut(standing, walk):
        return False
    if plainly_goes_on(company, standing, walk):
        return True
    return any(can_go_on(company, standing, walk + (who,)) for who in company.roped(walk[-1]))


def plainly_held(company, standing):
    """The plain words of who is held, rising."""
    told = []
    for who in company.folk():
        rooms = {standing[other] for other in company.roped(who) if can_go_on(company, standing, (who, other))}
        if who in company.posts() or len(rooms) > 1:
            told.append(who)
    return told


def plain_leads(house, company, one, other, folk, walk):
    """The plain words of a lead: the walks of this folk's lot by its walk, None where they are no lead."""
    walks = {folk: plain_shrunk(walk)}
    edge = [folk]
    while edge:
        who = edge.pop()
        for near in company.roped(who):
            along = (plain_read(one, (near, who)) + walks[who][1:])
            along = plain_shrunk(along + plain_read(other, (who, near))[1:])
            if near not in walks:
                walks[near] = along
                edge.append(near)
            if walks[near] != along:
                return None
    if any(len(walks[who]) > 1 for who in plainly_held(company, one) if who in walks):
        return None
    return walks


def small_cases():
    """Small houses with small companies: one lot and several, trees and rings of ropes, posts and none."""
    return [
        (one_room(), ropes_in_a_row("xyz")),
        (square(), Company(["x"], [])),
        (square(), ropes_in_a_row("xyz")),
        (square(), ropes_in_a_row("xyz", ["z"])),
        (square(), ropes_in_a_ring("vwxy")),
        (square(), ropes_in_a_ring("vwxyz")),
        (square(), ropes_in_a_ring("xyz", ["y"])),
        (square(), Company(list("vwxy"), [("v", "w"), ("v", "x"), ("v", "y")], ["w", "y"])),
        (tree(), Company(list("wxyz"), [("w", "x"), ("x", "y"), ("y", "w"), ("y", "z")])),
        (tailed(), Company(list("wxy"), [("x", "y")], ["w"])),
        (tailed(), ropes_in_a_row("wxyz", ["w", "z"])),
        (grid(), ropes_in_a_ring("wxyz")),
        (sheaf(), ropes_in_a_ring("wxyz", ["w"])),
        (parts(), Company(["x", "y", "z"], [("y", "z")], [])),
        (parts(), ropes_in_a_row("xy", ["x"])),
    ]


def over(house, turns, sheets=2):
    """A house of so many rooms over each room, and its fold: (above, fold).

    The rooms over a room are called as it, with x, y or z behind. A door, (lesser, greater), with a turn leads from
    sheet k over its lesser room to sheet k + turn over its greater, others stay in their sheet.
    """
    signs = "xyz"[:sheets]
    rooms = [room + sign for room in house.rooms() for sign in signs]
    doors = [(one + signs[k], other + signs[(k + turns.get((one, other), 0)) % sheets])
             for one, other in house.doors() for k in range(sheets)]
    return House(rooms, doors), {room: room[:-1] for room in rooms}


def folded():
    """Houses over others: (above, below, fold)."""
    told = []
    for below, turns, sheets in (
            (square(), {("a", "d"): 1}, 2), (square(), {("a", "d"): 1}, 3), (square(), {}, 2), (tree(), {}, 2),
            (one_room(), {}, 3), (grid(), {("a", "b"): 1}, 2), (grid(), {("a", "b"): 1, ("b", "c"): 2}, 3),
            (two_rings(), {("a", "d"): 1}, 2), (parts(), {("a", "e"): 1}, 2), (tailed(), {("a", "d"): 2}, 3),
            (sheaf(), {("a", "x"): 1, ("b", "z"): 1}, 2)):
        above, fold = over(below, turns, sheets)
        told.append((above, below, fold))
    told.append((square(), square(), {"a": "b", "b": "c", "c": "d", "d": "a"}))
    told.append((square(), square(), {"a": "a", "b": "d", "c": "c", "d": "b"}))
    told.append((square(), square(), {room: room for room in "abcd"}))
    return told
