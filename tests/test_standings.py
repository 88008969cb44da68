import copy
import unittest

from samples import all_dicts, anything, fits, grid, many_rooms, no_names, one_room, parts, square, tree
from tautropes.company import Company
from tautropes.errors import NoStanding, NotGone
from tautropes.house import House
from tautropes.standings import goings, gone, is_standing, read


def three_in_a_row(posts=()):
    return Company(["x", "y", "z"], [("x", "y"), ("z", "y")], posts)


CASES = [
    (one_room(), Company(["a"], [])),
    (one_room(), three_in_a_row()),
    (square(), three_in_a_row()),
    (grid(), three_in_a_row(["y"])),
    (tree(), Company(["x", "y", "z"], [("x", "y"), ("y", "z"), ("x", "z")])),
    (parts(), Company(["x", "y", "z"], [("z", "y")], ["x"])),
]


def standings():
    for house, company in CASES:
        for thing in all_dicts(company.folk(), house.rooms()):
            if fits(house, company, thing):
                yield house, company, thing


class IsStanding(unittest.TestCase):
    def test_all_dicts_from_folk_to_rooms(self):
        for house, company in CASES:
            for thing in all_dicts(company.folk(), house.rooms()):
                self.assertIs(is_standing(house, company, thing), fits(house, company, thing))

    def test_other_keys(self):
        company = three_in_a_row()
        right = {"z": "a", "x": "b", "y": "a"}
        self.assertIs(is_standing(house=square(), company=company, thing=right), True)
        for who in right:
            self.assertIs(is_standing(square(), company, {key: right[key] for key in right if key != who}), False)
        for key in ["w", "", None, 1, True, (), ("x",), "X"]:
            self.assertIs(is_standing(square(), company, {**right, key: "a"}), False)
            self.assertIs(is_standing(square(), company, {"x": "a", "y": "a", key: "a"}), False)

    def test_other_rooms(self):
        for thing in no_names() + ["q"]:
            for who in "xyz":
                handed = {"x": "a", "y": "a", "z": "a", who: thing}
                self.assertIs(is_standing(square(), three_in_a_row(), handed), False)

    def test_of_anything(self):
        for thing in anything():
            self.assertIs(is_standing(square(), three_in_a_row(), thing), False)
            self.assertIs(is_standing(square(), three_in_a_row(), [thing]), False)
        self.assertIs(is_standing(square(), Company(["a"], []), {"a": "b"}), True)
        self.assertIs(is_standing(square(), Company(["a"], []), [("a", "b")]), False)

    def test_posts_stand_anywhere(self):
        for room in "abcd":
            self.assertIs(is_standing(square(), Company(["x"], [], ["x"]), {"x": room}), True)

    def test_a_big_house(self):
        house = many_rooms()
        folk = list("abcdefghijkl")
        company = Company(folk, [(one, other) for k, one in enumerate(folk) for other in folk[:k]][:24])
        standing = {who: house.rooms()[0] for who in folk}
        self.assertIs(is_standing(house, company, standing), True)
        self.assertIs(is_standing(house, company, {**standing, "a": house.beside(house.rooms()[0])[0]}), True)
        self.assertIs(is_standing(house, company, {**standing, "a": house.rooms()[2]}), False)


class Goings(unittest.TestCase):
    def test_just_those_behind_which_a_standing_comes(self):
        for house, company, standing in standings():
            kept = dict(standing)
            right = [(who, room) for who in company.folk() if who not in company.posts()
                     for room in house.beside(standing[who]) if fits(house, company, {**standing, who: room})]
            told = goings(house, company, standing)
            self.assertEqual(told, right)
            self.assertIs(type(told), list)
            self.assertEqual(standing, kept)

    def test_ordinary(self):
        standing = {"z": "b", "y": "a", "x": "a"}
        told = goings(house=square(), company=three_in_a_row(["z"]), standing=standing)
        self.assertEqual(told, [("x", "b"), ("x", "d"), ("y", "b")])
        told.clear()
        self.assertEqual(len(goings(square(), three_in_a_row(["z"]), standing)), 3)

    def test_none(self):
        self.assertEqual(goings(one_room(), three_in_a_row(), {"x": "a", "y": "a", "z": "a"}), [])
        self.assertEqual(goings(square(), Company(["x"], [], ["x"]), {"x": "a"}), [])

    def test_what_is_no_standing(self):
        for thing in anything() + [{"x": "a", "y": "c", "z": "a"}, {"x": "a", "y": "a"}]:
            with self.assertRaises(NoStanding) as caught:
                goings(square(), three_in_a_row(), thing)
            self.assertEqual(caught.exception.asked, thing)


class Gone(unittest.TestCase):
    def not_gone(self, number, why, house, company, standing, row):
        kept = copy.deepcopy((standing, row))
        with self.assertRaises(NotGone) as caught:
            gone(house, company, standing, row)
        self.assertEqual(vars(caught.exception), {"number": number, "why": why})
        self.assertEqual((standing, row), kept)

    def test_rows(self):
        standing = {"x": "a", "y": "a", "z": "b"}
        row = [("x", "d"), ("z", "a"), ("y", "d"), ("x", "c"), ("z", "d")]
        for handed in (row, tuple(row)):
            told = gone(house=square(), company=three_in_a_row(), standing=standing, row=handed)
            self.assertEqual(told, {"x": "c", "y": "d", "z": "d"})
        self.assertEqual(standing, {"x": "a", "y": "a", "z": "b"})
        self.assertEqual(len(row), 5)

    def test_no_goings(self):
        standing = {"x": "a", "y": "a", "z": "b"}
        for row in ([], ()):
            told = gone(square(), three_in_a_row(), standing, row)
            self.assertEqual(told, standing)
            self.assertIsNot(told, standing)

    def test_each_going_and_no_other(self):
        for house, company, standing in standings():
            able = goings(house, company, standing)
            for who in company.folk():
                for room in house.rooms():
                    going = (who, room)
                    if going in able:
                        self.assertEqual(gone(house, company, standing, [going]), {**standing, who: room})
                        continue
                    why = "rope"
                    if who in company.posts():
                        why = "post"
                    elif room not in house.beside(standing[who]):
                        why = "door"
                    self.not_gone(0, why, house, company, standing, [going])

    def test_form(self):
        standing = {"x": "a", "y": "a", "z": "b"}
        for thing in anything() + [["x", "b"], ("x", "q"), ("q", "b"), ("x",), ("x", "b", "c"), ("b", "x"), "xb",
                                   {"x": "b"}, (("x", "b"),), (["x"], "b"), ("x", ["b"]), ("x", {}), ("x", "")]:
            self.not_gone(0, "form", square(), three_in_a_row(), standing, [thing])
            self.not_gone(1, "form", square(), three_in_a_row(), standing, (("x", "b"), thing, None))

    def test_the_first_cause_of_several(self):
        standing = {"x": "a", "y": "a", "z": "b"}
        company = three_in_a_row(["x"])
        # a post that has no such door, and one whose rope bars it
        self.not_gone(0, "form", square(), company, standing, [["x", "c"]])
        self.not_gone(0, "post", square(), company, standing, [("x", "c")])
        self.not_gone(0, "post", square(), company, standing, [("x", "a")])
        self.not_gone(0, "post", square(), company, {"x": "a", "y": "b", "z": "b"}, [("x", "d")])
        # no door, and a rope too
        self.not_gone(0, "door", square(), company, standing, [("y", "c")])
        self.not_gone(0, "door", square(), company, standing, [("y", "a")])
        self.not_gone(0, "rope", square(), company, standing, [("y", "d")])

    def test_the_first_going_that_can_not_be(self):
        standing = {"x": "a", "y": "a", "z": "a"}
        self.not_gone(2, "rope", square(), three_in_a_row(), standing, [("x", "b"), ("z", "b"), ("y", "d"), None])
        self.not_gone(1, "rope", square(), three_in_a_row(), standing, [("x", "b"), ("x", "c"), "form"])
        self.not_gone(3, "door", square(), three_in_a_row(), standing,
                      [("x", "b"), ("x", "a"), ("x", "b"), ("x", "b"), ("x", "q")])

    def test_four_hundred(self):
        row = [("x", "b"), ("x", "a")] * 200
        self.assertEqual(gone(square(), Company(["x"], []), {"x": "a"}, row), {"x": "a"})
        self.not_gone(399, "door", square(), Company(["x"], []), {"x": "a"}, row[:-1] + [("x", "d")])

    def test_what_is_no_standing_goes_ahead(self):
        for thing in anything():
            with self.assertRaises(NoStanding) as caught:
                gone(square(), three_in_a_row(), thing, [None])
            self.assertEqual(caught.exception.asked, thing)

    def test_what_is_told_is_the_askers_own(self):
        standing = {"x": "a", "y": "a", "z": "a"}
        first = gone(square(), three_in_a_row(), standing, [("x", "b")])
        second = gone(square(), three_in_a_row(), standing, [("x", "b")])
        first.clear()
        self.assertEqual(second, {"x": "b", "y": "a", "z": "a"})
        self.assertEqual(standing, {"x": "a", "y": "a", "z": "a"})

    def test_a_third_room_bars_in_every_house_without_threes(self):
        house = House(list("abcde"), [("a", "b"), ("a", "c"), ("c", "d"), ("b", "d"), ("d", "e")])
        company = Company(["x", "y"], [("x", "y")])
        self.not_gone(0, "rope", house, company, {"x": "a", "y": "b"}, [("x", "c")])
        self.assertEqual(gone(house, company, {"x": "a", "y": "b"}, [("x", "b")]), {"x": "b", "y": "b"})


class Read(unittest.TestCase):
    def test_the_rooms_one_behind_the_other(self):
        standing = {"x": "a", "y": "b", "z": "b"}
        self.assertEqual(read(standing, ("x", "y", "z")), ("a", "b"))
        self.assertEqual(read(standing=standing, rope_walk=("y", "z")), ("b",))
        self.assertEqual(read(standing, ("z",)), ("b",))
        self.assertEqual(standing, {"x": "a", "y": "b", "z": "b"})

    def test_it_may_go_straight_back(self):
        standing = {"x": "a", "y": "b", "z": "b"}
        self.assertEqual(read(standing, ("x", "y", "x", "y", "z", "y", "x")), ("a", "b", "a", "b", "a"))

    def test_round_a_ring(self):
        standing = {"p": "a", "q": "b", "r": "c", "s": "d", "t": "d"}
        self.assertEqual(read(standing, ("p", "q", "r", "s", "t", "p")), tuple("abcda"))
        self.assertEqual(len(read(standing, ("p", "q", "r", "s") * 15)), 60)


if __name__ == "__main__":
    unittest.main()
