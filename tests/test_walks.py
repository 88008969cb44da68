import unittest

from samples import anything, goes_straight_back, grid, houses, many_rooms, one_room, parts, square, tree, walks_of
from tautropes.errors import Apart
from tautropes.walks import behind, is_walk, shrunk, turned


def shrunk_in_every_order(walk):
    """All that can be left by taking out what goes straight back, whatever is taken first."""
    at = [k for k in range(len(walk) - 2) if walk[k] == walk[k + 2]]
    if not at:
        return {walk}
    return set().union(*[shrunk_in_every_order(walk[:k + 1] + walk[k + 3:]) for k in at])


class IsWalk(unittest.TestCase):
    def test_walks(self):
        for house in houses():
            for room in house.rooms():
                for steps in range(4):
                    for walk in walks_of(house, room, steps):
                        self.assertIs(is_walk(house, walk), True)

    def test_by_name(self):
        self.assertIs(is_walk(thing=("a", "b"), house=square()), True)

    def test_no_walks(self):
        house = square()
        for thing in [(), ("q",), ("a", "c"), ("a", "a"), ("a", "b", "d"), ("a", "b", "q"), ("q", "a"),
                      ["a"], ["a", "b"], "a", "ab", {"a": "b"}, (("a", "b"),), ("a", ["b"]), ("a", None),
                      ("a", "b", ("c",)), ("a", {}), ([], "a"), (True,), (1, "a")]:
            self.assertIs(is_walk(house, thing), False)

    def test_of_anything(self):
        house = many_rooms()
        for thing in anything():
            self.assertIs(is_walk(house, thing), False)
            self.assertIs(is_walk(house, (thing,)), False)
            self.assertIs(is_walk(house, (house.rooms()[0], thing)), False)
            self.assertIs(is_walk(house, [house.rooms()[0], thing]), False)

    def test_a_single_room(self):
        self.assertIs(is_walk(one_room(), ("a",)), True)
        self.assertIs(is_walk(one_room(), ("a", "a")), False)
        self.assertIs(is_walk(one_room(), ("b",)), False)

    def test_unlike_parts_and_long_walks(self):
        self.assertIs(is_walk(parts(), ("a", "x")), False)
        self.assertIs(is_walk(square(), tuple("abcd" * 100)), True)
        self.assertIs(is_walk(square(), tuple("abcd" * 99 + "abca")), False)


class Shrunk(unittest.TestCase):
    def test_what_goes_straight_back(self):
        self.assertEqual(shrunk(("a",)), ("a",))
        self.assertEqual(shrunk(("a", "b")), ("a", "b"))
        self.assertEqual(shrunk(("a", "b", "a")), ("a",))
        self.assertEqual(shrunk(tuple("abcbad")), ("a", "d"))
        self.assertEqual(shrunk(tuple("abcdcbabcb")), ("a", "b"))
        self.assertEqual(shrunk(tuple("bcbabab")), ("b",))
        self.assertEqual(shrunk(tuple("abcdabcd")), tuple("abcdabcd"))

    def test_whatever_is_taken_out_first(self):
        for house in (square(), tree(), grid()):
            for room in house.rooms():
                for walk in walks_of(house, room, 6):
                    self.assertEqual({shrunk(walk)}, shrunk_in_every_order(walk))
                    self.assertFalse(goes_straight_back(shrunk(walk)))

    def test_is_a_tuple(self):
        self.assertIs(type(shrunk(walk=("a", "b", "a", "b"))), tuple)

    def test_long(self):
        there = tuple("abcd" * 50)
        self.assertEqual(shrunk(there + there[::-1][1:]), ("a",))
        self.assertEqual(shrunk(there), there)
        self.assertEqual(len(shrunk(("a", "b") * 200)), 2)


class Turned(unittest.TestCase):
    def test_read_from_behind(self):
        self.assertEqual(turned(("a",)), ("a",))
        self.assertEqual(turned(tuple("abcd")), tuple("dcba"))
        self.assertIs(type(turned(walk=("a", "b"))), tuple)

    def test_is_not_shrunk(self):
        self.assertEqual(turned(tuple("abcbd")), tuple("dbcba"))


class Behind(unittest.TestCase):
    def test_one_behind_another(self):
        self.assertEqual(behind(("a",), ("a",)), ("a",))
        self.assertEqual(behind(("a", "b"), ("b", "c")), ("a", "b", "c"))
        self.assertEqual(behind(one=("a", "b"), other=("b",)), ("a", "b"))
        self.assertEqual(behind(("a",), ("a", "b")), ("a", "b"))
        self.assertIs(type(behind(("a", "b"), ("b", "c"))), tuple)

    def test_it_is_shrunk(self):
        self.assertEqual(behind(("a", "b", "c"), ("c", "b", "e")), ("a", "b", "e"))
        self.assertEqual(behind(("a", "b", "a", "d"), ("d", "c", "d")), ("a", "d"))
        for walk in walks_of(grid(), "a", 5):
            self.assertEqual(behind(walk, turned(walk)), ("a",))

    def test_walks_that_do_not_meet(self):
        for one, other in ((("a", "b"), ("a", "b")), (("a",), ("b",)), (("a", "b", "c"), ("b", "c"))):
            with self.assertRaises(Apart) as caught:
                behind(one, other)
            self.assertEqual(vars(caught.exception), {})

    def test_any_three_either_way(self):
        for one in walks_of(grid(), "a", 2):
            for other in walks_of(grid(), one[-1], 2):
                for third in walks_of(grid(), other[-1], 2):
                    self.assertEqual(behind(behind(one, other), third), behind(one, behind(other, third)))


if __name__ == "__main__":
    unittest.main()
