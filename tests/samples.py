"""What many tests hand in: things of every kind, and some houses."""

from itertools import product

from tautropes.house import House


def nested(depth):
    thing = "a"
    for turn in range(depth):
        thing = [[thing], (thing,), {"a": thing}][turn % 3]
    return thing


def no_names():
    """Things of every kind that are no name."""
    return [
        None, True, False, 0, 1, -1, 10 ** 30 - 1, -(10 ** 30) + 1,
        "", "A", "aB", "a b", " a", "a ", "a\n", "\n", "abcdefghi", "a1", "1", "~", "a_b", "{}",
        (), ("a",), ("a", "b"), ("a", "b", "c"), (("a", "b"),), (None, None), (1, 2), ("a", ["b"]),
        [], ["a"], ["a", "b"], [["a"], ["b"]], [None], [{}, {}], [{"a": "b"}, ("a",)],
        {}, {"a": "b"}, {"a": "a", "b": "b"}, {1: 2}, {None: ()}, {(): []}, {("a", "b"): {"a": {}}},
        nested(8), nested(7), nested(6),
    ]


def anything():
    """Things of every kind, names too."""
    return no_names() + ["a", "b", "z", "abcdefgh"]


def tangled(rooms, doors):
    """The same rooms and doors, in other orders, as lists and as tuples, either way about."""
    yield list(rooms), list(doors)
    yield tuple(rooms), tuple(doors)
    yield list(rooms)[::-1], [list(door) for door in doors][::-1]
    yield tuple(rooms)[::-1], tuple(tuple(door)[::-1] for door in doors)
    yield list(rooms)[1:] + list(rooms)[:1], [list(door)[::-1] for door in doors[1:] + doors[:1]]


def ring_of(names):
    return [(names[k - 1], names[k]) for k in range(len(names))]


def one_room():
    return House(["a"], [])


def square():
    return House(list("abcd"), ring_of("abcd"))


def tree():
    return House(list("abcdef"), [("a", "b"), ("b", "c"), ("b", "d"), ("d", "e"), ("e", "f")])


def two_rings():
    """Two rings of four that meet in room d."""
    return House(list("abcdefg"), ring_of("abcd") + ring_of("defg"))


def grid():
    """Six rooms in two rows of three: two rings of four with a door in common."""
    return House(list("abcdef"), [("a", "b"), ("b", "c"), ("d", "e"), ("e", "f"), ("a", "d"), ("b", "e"), ("c", "f")])


def parts():
    """A ring of five, a row of three, and a room alone."""
    return House(list("abcdevxyz"), ring_of("abcde") + [("x", "y"), ("y", "z")])


def many_rooms():
    """Forty rooms with eighty doors: a ring of forty, and doors across it without threes."""
    names = [one + other for one in "abcdefgh" for other in "vwxyz"]
    across = [(names[k], names[(k + 7) % 40]) for k in range(40)]
    return House(names, ring_of(names) + across)


def two_hubs():
    """Two rooms, each with a door to each of thirty-eight others."""
    names = [one + other for one in "abcdefgh" for other in "vwxyz"][:38]
    return House(["zz", "zy"] + names, [(hub, name) for hub in ("zz", "zy") for name in names])


def houses():
    return [one_room(), square(), tree(), two_rings(), grid(), parts()]


def walks_of(house, begin, steps):
    """All walks of so many steps from a room, straight back too."""
    found = [(begin,)]
    for _ in range(steps):
        found = [walk + (room,) for walk in found for room in house.beside(walk[-1])]
    return found


def closed_walks(house, begin, most):
    """All closed walks of at most so many steps from a room."""
    return [walk for steps in range(most + 1) for walk in walks_of(house, begin, steps) if walk[0] == walk[-1]]


def goes_straight_back(walk):
    return any(walk[k] == walk[k + 2] for k in range(len(walk) - 2))


def all_dicts(keys, values):
    """All dicts from just these keys to these values."""
    return [dict(zip(keys, row)) for row in product(values, repeat=len(keys))]
