import copy
import unittest
from itertools import combinations

from samples import anything, houses, many_rooms, no_names, parts, square, tangled, tree, walks_of
from tautropes.errors import NoDoor, NoRoom, Three
from tautropes.house import House


class Refusing(unittest.TestCase):
    def refused(self, error, field, rooms, doors):
        kept = copy.deepcopy((rooms, doors))
        with self.assertRaises(error) as caught:
            House(rooms, doors)
        self.assertIs(type(caught.exception), error)
        told = list(vars(caught.exception).values())
        self.assertEqual(told, [field])
        self.assertIs(type(told[0]), type(field))
        self.assertEqual((rooms, doors), kept)


class Rooms(Refusing):
    def test_no_list_and_no_tuple(self):
        for thing in anything():
            if not isinstance(thing, (list, tuple)):
                self.refused(NoRoom, thing, thing, [])

    def test_no_rooms(self):
        self.refused(NoRoom, (), [], [])
        self.refused(NoRoom, (), (), [])

    def test_what_is_no_name(self):
        for thing in no_names():
            self.refused(NoRoom, thing, [thing], [])
            self.refused(NoRoom, thing, ("a", thing, "b"), [])
            self.refused(NoRoom, thing, ["a", "b", thing, None, "a"], [])

    def test_lengths_of_names(self):
        self.assertEqual(House(["a", "abcdefgh"], []).rooms(), ("a", "abcdefgh"))
        self.refused(NoRoom, "abcdefghi", ["abcdefghi"], [])
        self.refused(NoRoom, "", ["a", ""], [])

    def test_every_letter(self):
        for letter in "abcdefghijklmnopqrstuvwxyz":
            self.assertEqual(House([letter], []).rooms(), (letter,))
        for code in list(range(32, 97)) + list(range(123, 127)) + [10]:
            self.refused(NoRoom, chr(code), [chr(code)], [])
            self.refused(NoRoom, "a" + chr(code), ["a" + chr(code)], [])

    def test_a_name_twice(self):
        self.refused(NoRoom, "b", ["a", "b", "b", 3], [])
        self.refused(NoRoom, "a", ("a", "b", "c", "a", "b"), [])

    def test_rooms_go_ahead_of_doors(self):
        for thing in no_names():
            self.refused(NoRoom, thing, ["a", thing], None)
        self.refused(NoRoom, (), [], [("a", "b"), ("b", "c"), ("a", "c")])


class Doors(Refusing):
    def test_no_list_and_no_tuple(self):
        for thing in anything():
            if not isinstance(thing, (list, tuple)):
                self.refused(NoDoor, thing, ["a", "b"], thing)

    def test_no_doors(self):
        self.assertEqual(House(["a", "b"], []).doors(), [])
        self.assertEqual(House(("a", "b"), ()).doors(), [])

    def test_what_is_no_pair_of_rooms(self):
        for thing in anything():
            if thing in (("a", "b"), ["a", "b"]):
                continue
            self.refused(NoDoor, thing, ["a", "b", "c"], [thing])
            self.refused(NoDoor, thing, ["c", "b", "a"], (("c", "b"), thing, None))
            self.refused(NoDoor, ("a", thing), ["c", "d", "a"], [("a", "c"), ("a", thing)])
            self.refused(NoDoor, [thing, "d"], ["c", "d", "e"], [[thing, "d"], 1])

    def test_texts_and_dicts_are_no_pairs(self):
        self.refused(NoDoor, "ab", ["a", "b"], ["ab"])
        self.refused(NoDoor, {"a": 1, "b": 2}, ["a", "b"], [{"a": 1, "b": 2}])

    def test_like_rooms_and_other_numbers_of_rooms(self):
        self.refused(NoDoor, ("a", "a"), ["a", "b"], [("a", "a")])
        self.refused(NoDoor, ("a",), ["a", "b"], [("a",)])
        self.refused(NoDoor, ["a", "b", "c"], ["a", "b", "c"], [["a", "b", "c"]])

    def test_a_door_there_already(self):
        self.refused(NoDoor, ("a", "b"), ["a", "b", "c"], [("a", "b"), ("b", "c"), ("a", "b")])
        self.refused(NoDoor, ["b", "a"], ["a", "b", "c"], [("a", "b"), ["b", "a"], None])

    def test_doors_go_ahead_of_threes(self):
        self.refused(NoDoor, None, ["a", "b", "c"], [("a", "b"), ("b", "c"), ("c", "a"), None])

    def test_the_very_same_door_object_twice(self):
        door = ["a", "b"]
        self.refused(NoDoor, ["a", "b"], ["a", "b"], [door, door])


class Threes(Refusing):
    def test_three_rooms_with_doors_each_to_each(self):
        for rooms, doors in tangled("abc", [("a", "b"), ("b", "c"), ("a", "c")]):
            self.refused(Three, ("a", "b", "c"), rooms, doors)

    def test_the_first_such_rising(self):
        each = list(combinations("fbdca", 2))
        self.refused(Three, ("a", "b", "c"), list("abcdef"), each)
        self.refused(Three, ("a", "c", "d"), list("abcdef"), [door for door in each if set(door) != {"a", "b"}])
        two = [("c", "x"), ("x", "y"), ("y", "c"), ("z", "y"), ("b", "z"), ("y", "b")]
        self.refused(Three, ("b", "y", "z"), list("abcxyz"), two)
        self.refused(Three, ("a", "b", "z"), list("abcxyz"), two + [("a", "b"), ("a", "z")])

    def test_all_small_houses_against_the_plain_words(self):
        rooms = "abcde"
        every = list(combinations(rooms, 2))
        for number in range(2 ** len(every)):
            doors = [door for k, door in enumerate(every) if number >> k & 1]
            threes = [three for three in combinations(rooms, 3)
                      if all(door in doors for door in combinations(three, 2))]
            if threes:
                with self.assertRaises(Three) as caught:
                    House(rooms=list(rooms), doors=doors)
                self.assertEqual(caught.exception.three, threes[0])
            else:
                self.assertEqual(House(list(rooms), doors).doors(), doors)

    def test_rings_of_four_are_no_threes(self):
        self.assertEqual(len(square().doors()), 4)
        self.assertEqual(len(many_rooms().doors()), 80)


class Telling(unittest.TestCase):
    def test_rooms_and_doors_rise(self):
        doors = [("b", "a"), ("d", "c"), ("e", "d"), ("c", "b")]
        for rooms, handed in tangled("edacb", doors):
            house = House(rooms, handed)
            self.assertEqual(house.rooms(), ("a", "b", "c", "d", "e"))
            self.assertIs(type(house.rooms()), tuple)
            self.assertEqual(house.doors(), [("a", "b"), ("b", "c"), ("c", "d"), ("d", "e")])
            self.assertTrue(all(type(door) is tuple for door in house.doors()))

    def test_rising_is_as_texts_are_ordered(self):
        house = House(["b", "ab", "a", "aa"], [("b", "a"), ("b", "aa"), ("ab", "a")])
        self.assertEqual(house.rooms(), ("a", "aa", "ab", "b"))
        self.assertEqual(house.doors(), [("a", "ab"), ("a", "b"), ("aa", "b")])
        self.assertEqual(house.beside("b"), ["a", "aa"])

    def test_beside(self):
        self.assertEqual(House(["a"], []).beside("a"), [])
        self.assertEqual(tree().beside("b"), ["a", "c", "d"])
        self.assertEqual(square().beside(room="a"), ["b", "d"])
        for house in houses():
            for room in house.rooms():
                near = [other for other in house.rooms()
                        if (room, other) in house.doors() or (other, room) in house.doors()]
                self.assertEqual(house.beside(room), near)

    def test_of_what_is_no_room(self):
        house = House(["a", "b", "c"], [("a", "b")])
        for thing in no_names() + ["d", "ab"]:
            for call in (lambda: house.beside(thing), lambda: house.steps(thing, "a"), lambda: house.way(thing, "a"),
                         lambda: house.steps("a", thing), lambda: house.way("a", thing),
                         lambda: house.steps(thing, None), lambda: house.way(thing, "q"),
                         lambda: house.steps("c", thing), lambda: house.way("c", other=thing)):
                with self.assertRaises(NoRoom) as caught:
                    call()
                self.assertEqual(caught.exception.asked, thing)

    def test_what_is_told_is_the_askers_own(self):
        house = parts()
        house.doors().clear()
        house.beside("a").append("z")
        told = house.parts()
        told[0].append("q")
        told.pop()
        self.assertEqual(house.doors(), parts().doors())
        self.assertEqual(house.beside("a"), ["b", "e"])
        self.assertEqual(house.parts(), [list("abcde"), ["v"], list("xyz")])
        self.assertIsNot(house.doors(), house.doors())
        self.assertIsNot(house.beside("a"), house.beside("a"))
        self.assertEqual(house, parts())

    def test_what_is_handed_in_stays_and_may_be_changed_behind(self):
        rooms, doors = ["c", "b", "a"], [["c", "b"], ["b", "a"]]
        house = House(rooms, doors)
        self.assertEqual((rooms, doors), (["c", "b", "a"], [["c", "b"], ["b", "a"]]))
        rooms.append("d")
        doors[0][0] = "a"
        doors.pop()
        self.assertEqual(house.rooms(), ("a", "b", "c"))
        self.assertEqual(house.doors(), [("a", "b"), ("b", "c")])
        self.assertEqual(house.beside("c"), ["b"])

    def test_methods_stand_in_the_class_itself(self):
        for name in ("__init__", "__eq__", "rooms", "doors", "beside", "parts", "steps", "way"):
            self.assertIn(name, vars(House))
        self.assertEqual(House.__module__, "tautropes.house")


class HangingTogether(unittest.TestCase):
    def test_parts(self):
        self.assertEqual(House(["a"], []).parts(), [["a"]])
        self.assertEqual(House(["b", "c", "a"], []).parts(), [["a"], ["b"], ["c"]])
        self.assertEqual(House(list("abcd"), [("d", "a"), ("c", "b")]).parts(), [["a", "d"], ["b", "c"]])
        self.assertEqual(parts().parts(), [list("abcde"), ["v"], list("xyz")])
        self.assertEqual(many_rooms().parts(), [sorted(many_rooms().rooms())])

    def test_steps_and_ways_against_all_walks(self):
        for house in houses():
            for one in house.rooms():
                fewest = {}
                for steps in range(6):
                    for walk in walks_of(house, one, steps):
                        fewest.setdefault(walk[-1], steps)
                for other in house.rooms():
                    self.assertEqual(house.steps(one, other), fewest.get(other))
                    way = house.way(one, other)
                    if other not in fewest:
                        self.assertIsNone(way)
                        continue
                    self.assertIs(type(way), tuple)
                    self.assertEqual((way[0], way[-1], len(way) - 1), (one, other, fewest[other]))
                    self.assertTrue(all(room in house.beside(ahead) for ahead, room in zip(way, way[1:])))

    def test_a_room_and_itself(self):
        self.assertEqual(square().steps("a", "a"), 0)
        self.assertEqual(square().way("a", "a"), ("a",))

    def test_by_name(self):
        self.assertEqual(tree().way(other="f", one="a"), ("a", "b", "d", "e", "f"))
        self.assertEqual(tree().steps(one="a", other="f"), 4)

    def test_unlike_parts(self):
        self.assertIsNone(parts().steps("a", "x"))
        self.assertIsNone(parts().way("v", "a"))

    def test_a_long_way(self):
        names = [one + other for one in "abcdefgh" for other in "vwxyz"]
        house = House(names, list(zip(names, names[1:])))
        self.assertEqual(house.way(names[-1], names[0]), tuple(reversed(names)))
        self.assertEqual(house.steps(names[0], names[-1]), 39)


class Equality(unittest.TestCase):
    def test_equal_where_rooms_and_doors_are(self):
        doors = [("b", "a"), ("d", "c"), ("e", "d"), ("c", "b")]
        made = [House(rooms, handed) for rooms, handed in tangled("edacb", doors)]
        for one in made:
            for other in made:
                self.assertTrue(one == other)
                self.assertFalse(one != other)

    def test_unlike(self):
        house = House(["a", "b", "c"], [("a", "b")])
        for other in (House(["a", "b"], [("a", "b")]), House(["a", "b", "c"], []),
                      House(["a", "b", "c"], [("a", "c")]), House(["a", "b", "d"], [("a", "b")]),
                      House(["a", "b", "c"], [("a", "b"), ("b", "c")])):
            self.assertFalse(house == other)
            self.assertTrue(house != other)

    def test_nothing_of_another_kind(self):
        house = House(["a"], [])
        for thing in anything() + [House, (("a",), []), house.rooms(), house.doors()]:
            self.assertFalse(house == thing)
            self.assertFalse(thing == house)
            self.assertTrue(house != thing)


if __name__ == "__main__":
    unittest.main()
