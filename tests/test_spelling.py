import unittest

from samples import (closed_walks, goes_straight_back, grid, houses, many_rooms, no_names, one_room, parts, ring_of,
                     square, tree, two_hubs, two_rings, walks_of)
from tautropes.errors import NoRoom, NotClosed, TooMany
from tautropes.house import House
from tautropes.rings import core, named
from tautropes.spelling import all_rings, count_walks, read_off, spare_doors, spelled
from tautropes.walks import shrunk


def reduced(spelling):
    kept = []
    for number, way in spelling:
        if kept and kept[-1] == (number, -way):
            kept.pop()
        else:
            kept.append((number, way))
    return kept


def spellings(numbers, length):
    found = [[]]
    for _ in range(length):
        found = found + [row + [(number, way)] for row in found for number in numbers for way in (1, -1)]
    return found


def names_of(many):
    return [one + other for one in "abcdefgh" for other in "vwxyz"][:many]


def hubs_and(many):
    """Two rooms, each with a door to each of so many others."""
    return House(names_of(many) + ["zy", "zz"], [(hub, name) for hub in ("zy", "zz") for name in names_of(many)])


def thousand_squares(one_more):
    """A house in which a thousand rings of four steps can be gone round, each either way about, or one more."""
    few, many = ["l" + letter for letter in "abcdef"], ["m" + letter for letter in "abcdefghijkl"]
    doors = [(one, other) for one in few for other in many]
    # 15 * 66 squares so far; "u" adds 6, "v" adds 2, and "w" adds 2 or, beside the same two as "v", 3
    doors = doors + [("u", "ma"), ("u", "mb"), ("v", "u"), ("v", "la"), ("w", "u"), ("w", "la" if one_more else "lb")]
    return House(few + many + ["u", "v", "w"], doors)


class Counts(unittest.TestCase):
    def test_against_all_walks(self):
        for house in houses():
            for one in house.rooms():
                for steps in range(7):
                    short = [walk for walk in walks_of(house, one, steps) if not goes_straight_back(walk)]
                    for other in house.rooms():
                        right = len([walk for walk in short if walk[-1] == other])
                        self.assertEqual(count_walks(house, one, other, steps), right)

    def test_no_steps(self):
        self.assertEqual(count_walks(square(), "a", "a", 0), 1)
        self.assertEqual(count_walks(square(), "a", "c", 0), 0)
        self.assertEqual(count_walks(one_room(), "a", "a", 0), 1)
        self.assertEqual(count_walks(one_room(), "a", "a", 1), 0)

    def test_two_hundred_steps(self):
        self.assertEqual(count_walks(square(), "a", "a", 200), 2)
        self.assertEqual(count_walks(square(), "a", "c", 200), 0)
        self.assertEqual(count_walks(tree(), "a", "f", 200), 0)
        self.assertEqual(count_walks(house=two_hubs(), one="zy", other="zy", steps=200), 38 * 37 ** 99)
        self.assertEqual(count_walks(two_hubs(), "zy", "zz", 200), 0)

    def test_far_too_many_to_list(self):
        # two rings that meet in d: each arrival there goes on in one of three ways
        self.assertEqual(count_walks(two_rings(), "d", "d", 200), 4 * 3 ** 49)
        house = many_rooms()
        begin = house.rooms()[0]
        self.assertEqual(sum(count_walks(house, begin, room, 200) for room in house.rooms()), 4 * 3 ** 199)

    def test_unlike_parts(self):
        for steps in range(9):
            self.assertEqual(count_walks(parts(), "a", "x", steps), 0)

    def test_what_is_no_room(self):
        for thing in no_names() + ["q"]:
            for one, other in ((thing, "a"), ("a", thing), (thing, None), (thing, "r")):
                for steps in (0, 1, 5):
                    with self.assertRaises(NoRoom) as caught:
                        count_walks(square(), one, other, steps)
                    self.assertEqual(caught.exception.asked, thing)


class AllRings(unittest.TestCase):
    def test_against_all_walks(self):
        for house in houses():
            for steps in range(1, 9):
                names = set()
                for room in house.rooms():
                    for walk in walks_of(house, room, steps):
                        if walk[0] == walk[-1] and len(core(walk)[1]) == steps + 1:
                            names.add(named(walk))
                self.assertEqual(all_rings(house, steps), sorted(names))

    def test_either_way_about_and_several_times(self):
        self.assertEqual(all_rings(square(), 4), [tuple("abcda"), tuple("adcba")])
        self.assertEqual(all_rings(house=square(), steps=8), [tuple("abcdabcda"), tuple("adcbadcba")])
        self.assertEqual(all_rings(square(), 6), [])

    def test_no_rings(self):
        for steps in range(1, 9):
            self.assertEqual(all_rings(tree(), steps), [])
            self.assertEqual(all_rings(one_room(), steps), [])

    def test_a_new_list_each_time(self):
        house = square()
        all_rings(house, 4).clear()
        self.assertEqual(len(all_rings(house, 4)), 2)

    def test_two_thousand_and_more(self):
        told = all_rings(thousand_squares(False), 4)
        self.assertEqual(len(told), 2000)
        self.assertEqual(told, sorted(told))
        self.assertTrue(all(named(ring) == ring for ring in told))
        for house, steps in ((thousand_squares(True), 4), (two_hubs(), 8), (many_rooms(), 10)):
            with self.assertRaises(TooMany) as caught:
                all_rings(house, steps)
            self.assertEqual(caught.exception.most, 2000)

    def test_none_in_a_house_of_many_walks(self):
        for steps in (1, 2, 3, 5, 6, 7, 9, 10):
            self.assertEqual(all_rings(two_hubs(), steps), [])

    def test_as_many_as_reckoned(self):
        # a ring of eight steps goes by four of the others in turn, each unlike the next
        for many in range(2, 12):
            reckoned = ((many - 1) ** 4 + (many - 1) + many * (many - 1)) // 2
            if reckoned > 2000:
                with self.assertRaises(TooMany):
                    all_rings(hubs_and(many), 8)
            else:
                self.assertEqual(len(all_rings(hubs_and(many), 8)), reckoned)


class SpareDoors(unittest.TestCase):
    def test_those_beside_the_tree(self):
        self.assertEqual(spare_doors(square()), [("c", "d")])
        self.assertEqual(spare_doors(house=grid()), [("d", "e"), ("e", "f")])
        self.assertEqual(spare_doors(two_rings()), [("c", "d"), ("f", "g")])
        self.assertEqual(spare_doors(tree()), [])
        self.assertEqual(spare_doors(one_room()), [])

    def test_against_the_plain_words(self):
        for house in houses() + [many_rooms(), two_hubs()]:
            doors = []
            spare = []
            for door in house.doors():
                if House(house.rooms(), doors).steps(*door) is None:
                    doors.append(door)
                else:
                    spare.append(door)
            self.assertEqual(spare_doors(house), spare)
            for part in house.parts():
                inside = [door for door in house.doors() if door[0] in part]
                self.assertEqual(len([door for door in spare if door[0] in part]), len(inside) - len(part) + 1)

    def test_a_new_list_each_time(self):
        house = square()
        spare_doors(house).clear()
        self.assertEqual(spare_doors(house), [("c", "d")])


class Spelled(unittest.TestCase):
    def test_ways(self):
        self.assertEqual(spelled(square(), tuple("abcda")), [(0, 1)])
        self.assertEqual(spelled(square(), tuple("adcba")), [(0, -1)])
        self.assertEqual(spelled(house=two_rings(), walk=tuple("dabcdgfed")), [(0, 1), (1, -1)])
        self.assertEqual(spelled(square(), tuple("abcdabcda")), [(0, 1), (0, 1)])

    def test_it_is_spelled_shrunk(self):
        self.assertEqual(spelled(square(), tuple("abcdcdcdcba")), [])
        self.assertEqual(spelled(square(), tuple("abcdcda")), [(0, 1)])
        self.assertEqual(spelled(tree(), tuple("abdedba")), [])
        self.assertEqual(spelled(one_room(), ("a",)), [])

    def test_what_is_not_closed(self):
        for walk in (("a", "b"), tuple("abcd"), tuple("abab")):
            with self.assertRaises(NotClosed):
                spelled(square(), walk)

    def test_earlier_ones_stay_while_others_are_told(self):
        house = square()
        first = spelled(house, tuple("abcda"))
        second = spelled(house, tuple("abcda"))
        second.append((0, 1))
        self.assertEqual(first, [(0, 1)])
        self.assertEqual(spelled(house, tuple("abcda")), [(0, 1)])
        self.assertEqual(read_off(house, "a", second), tuple("abcdabcda"))

    def test_numbers_count_among_all_spare_doors(self):
        house = House(list("abcdwxyz"), ring_of("abcd") + ring_of("wxyz"))
        self.assertEqual(spare_doors(house), [("c", "d"), ("y", "z")])
        self.assertEqual(spelled(house, tuple("wxyzw")), [(1, 1)])
        self.assertEqual(read_off(house, "w", [(1, -1)]), tuple("wzyxw"))


class ReadOff(unittest.TestCase):
    def test_there_and_back(self):
        for house in houses():
            for room in house.rooms():
                for walk in closed_walks(house, room, 7):
                    self.assertEqual(read_off(house, room, spelled(house, walk)), shrunk(walk))

    def test_back_and_there(self):
        for house in (square(), grid(), two_rings()):
            numbers = list(range(len(spare_doors(house))))
            for room in house.rooms():
                for spelling in spellings(numbers, 3):
                    kept = list(spelling)
                    walk = read_off(house, room, spelling)
                    self.assertEqual(spelling, kept)
                    self.assertIs(type(walk), tuple)
                    self.assertEqual((walk[0], walk[-1], shrunk(walk)), (room, room, walk))
                    self.assertEqual(spelled(house, walk), reduced(spelling))

    def test_empty_and_straight_back(self):
        self.assertEqual(read_off(square(), "b", []), ("b",))
        self.assertEqual(read_off(square(), "b", [(0, 1), (0, -1)]), ("b",))
        self.assertEqual(read_off(house=square(), room="b", spelling=[(0, -1), (0, 1), (0, 1)]), tuple("bcdab"))
        self.assertEqual(read_off(tree(), "f", []), ("f",))

    def test_four_hundred_pairs(self):
        walk = read_off(square(), "a", [(0, 1)] * 400)
        self.assertEqual(walk, tuple("abcd" * 400 + "a"))
        self.assertEqual(spelled(square(), walk), [(0, 1)] * 400)
        house = many_rooms()
        spelling = [(k % 41, 1) for k in range(400)]
        self.assertEqual(spelled(house, read_off(house, house.rooms()[3], spelling)), spelling)

    def test_what_is_no_room(self):
        for thing in no_names() + ["q"]:
            for spelling in ([], [(0, 1)]):
                with self.assertRaises(NoRoom) as caught:
                    read_off(square(), thing, spelling)
                self.assertEqual(caught.exception.asked, thing)


if __name__ == "__main__":
    unittest.main()
