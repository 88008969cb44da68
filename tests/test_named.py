import copy
import unittest

from samples import (anything, all_standings, grid, houses, no_names, one_room, parts, ring_of, ropes_in_a_ring,
                     small_cases, square, tree)
from tautropes.company import Company
from tautropes.errors import NoNames
from tautropes.house import House
from tautropes.leads import all_leads
from tautropes.meeting import meetings
from tautropes.named import named_company, named_house, named_standing
from tautropes.standings import goings, is_standing
from tautropes.taut import held
from tautropes.ways import fewest, is_led


def other_names(names):
    """Each called otherwise, in another order, some by the name of another one."""
    return dict(zip(names, list(names[2:]) + ["zz" + name[:6] for name in names[:2]]))


def both_called(pairs, names):
    return sorted(tuple(sorted((names[one], names[other]))) for one, other in pairs)


def back(names):
    return {names[name]: name for name in names}


def companies():
    return [company for _, company in small_cases()]


class Houses(unittest.TestCase):
    def test_called_otherwise_and_back(self):
        for house in houses():
            told = house.rooms(), house.doors()
            names = other_names(house.rooms())
            kept = dict(names)
            called = named_house(house, names)
            self.assertIs(type(called), House)
            self.assertEqual(called.rooms(), tuple(sorted(names.values())))
            self.assertEqual(called.doors(), both_called(told[1], names))
            for one in house.rooms():
                self.assertEqual(called.beside(names[one]), sorted(names[room] for room in house.beside(one)))
                for other in house.rooms():
                    self.assertEqual(called.steps(names[one], names[other]), house.steps(one, other))
            self.assertEqual(named_house(called, back(names)), house)
            self.assertEqual((names, (house.rooms(), house.doors())), (kept, told))

    def test_names_that_leave_all_or_exchange_two(self):
        for house in houses():
            self.assertEqual(named_house(house, {room: room for room in house.rooms()}), house)
        names = {"a": "b", "b": "a", "c": "c", "d": "d", "e": "e", "f": "f"}
        self.assertEqual(named_house(house=grid(), names=names).doors(),
                         [("a", "b"), ("a", "c"), ("a", "e"), ("b", "d"), ("c", "f"), ("d", "e"), ("e", "f")])
        self.assertEqual(named_house(one_room(), {"a": "abcdefgh"}), House(["abcdefgh"], []))

    def test_what_is_handed_in_may_be_changed_behind(self):
        names = {room: room * 2 for room in "abcd"}
        called = named_house(square(), names)
        names.clear()
        self.assertEqual(called, House(["aa", "bb", "cc", "dd"], ring_of(["aa", "bb", "cc", "dd"])))


class Companies(unittest.TestCase):
    def test_called_otherwise_and_back(self):
        for company in companies():
            told = company.folk(), company.ropes(), company.posts()
            names = other_names(company.folk())
            kept = dict(names)
            called = named_company(company, names)
            self.assertIs(type(called), Company)
            self.assertEqual(called.folk(), tuple(sorted(names.values())))
            self.assertEqual(called.ropes(), both_called(told[1], names))
            self.assertEqual(called.posts(), tuple(sorted(names[who] for who in told[2])))
            self.assertEqual(named_company(called, back(names)), company)
            self.assertEqual((names, (company.folk(), company.ropes(), company.posts())), (kept, told))

    def test_names_that_leave_all_or_exchange_two(self):
        for company in companies():
            self.assertEqual(named_company(company, {who: who for who in company.folk()}), company)
        company = Company(list("xyz"), [("x", "y")], ["y"])
        self.assertEqual(named_company(company=company, names={"x": "x", "y": "z", "z": "y"}),
                         Company(list("xyz"), [("x", "z")], ["z"]))


class Standings(unittest.TestCase):
    def test_called_otherwise_and_back(self):
        for house, company in small_cases():
            names, rooms = other_names(company.folk()), other_names(house.rooms())
            for standing in all_standings(house, company)[::13]:
                kept = copy.deepcopy((standing, names, rooms))
                called = named_standing(standing, names, rooms)
                self.assertIs(type(called), dict)
                self.assertEqual(called, {names[who]: rooms[standing[who]] for who in standing})
                self.assertEqual(named_standing(standing=called, names=back(names), rooms=back(rooms)), standing)
                self.assertEqual((standing, names, rooms), kept)

    def test_told_anew(self):
        standing, same = {"x": "a"}, {"x": "x"}
        called = named_standing(standing, same, {"a": "a", "b": "b"})
        self.assertEqual(called, standing)
        called.clear()
        self.assertEqual(standing, {"x": "a"})

    def test_all_is_told_alike(self):
        for house, company in small_cases():
            names, rooms = other_names(company.folk()), other_names(house.rooms())
            other_house, other_company = named_house(house, rooms), named_company(company, names)
            told = all_standings(house, company)
            for one in told[::41]:
                called = named_standing(one, names, rooms)
                self.assertTrue(is_standing(other_house, other_company, called))
                self.assertEqual(goings(other_house, other_company, called),
                                 sorted((names[who], rooms[room]) for who, room in goings(house, company, one)))
                self.assertEqual(held(other_house, other_company, called),
                                 sorted(names[who] for who in held(house, company, one)))
                self.assertEqual(meetings(other_house, other_company, called),
                                 sorted((rooms[room], many) for room, many in meetings(house, company, one)))
                for other in told[::29]:
                    self.alike(house, company, one, other, names, rooms)

    def alike(self, house, company, one, other, names, rooms):
        handed = (named_house(house, rooms), named_company(company, names), named_standing(one, names, rooms),
                  named_standing(other, names, rooms))
        self.assertEqual(is_led(*handed), is_led(house, company, one, other))
        if is_led(*handed):
            self.assertEqual(fewest(*handed), fewest(house, company, one, other))
            folk = company.folk()[0]
            self.assertEqual(all_leads(*handed, names[folk])[0], all_leads(house, company, one, other, folk)[0])


class Refusals(unittest.TestCase):
    def refused(self, thing, rooms="ab"):
        for call in (lambda: named_house(House(list(rooms), []), thing),
                     lambda: named_company(Company(list(rooms), []), thing)):
            kept = copy.deepcopy(thing)
            with self.assertRaises(NoNames) as caught:
                call()
            self.assertIs(type(caught.exception), NoNames)
            self.assertIs(caught.exception.asked, thing)
            self.assertEqual(thing, kept)

    def test_of_anything(self):
        for thing in anything():
            if thing != {"a": "a", "b": "b"}:
                self.refused(thing)
        for thing in (["a", "b"], (("a", "x"), ("b", "y")), [("a", "x"), ("b", "y")], "ab"):
            self.refused(thing)

    def test_a_key_too_few_or_too_many(self):
        self.refused({"a": "x"})
        self.refused({})
        self.refused({"a": "x", "b": "y", "c": "z"})
        self.refused({"a": "x", "b": "y", None: "z"})
        self.refused({"a": "x", "c": "y"})
        self.refused({"a": "x", ("b",): "y"})

    def test_no_names(self):
        for thing in no_names():
            self.refused({"a": thing, "b": "y"})
            self.refused({"a": "y", "b": thing})

    def test_like_names(self):
        self.refused({"a": "x", "b": "x"})
        self.refused({"a": "b", "b": "b"})
        self.refused({"a": "x", "b": "y", "c": "x"}, "abc")

    def test_longest_name(self):
        self.refused({"a": "abcdefghi", "b": "x"})
        self.assertEqual(named_house(House(["a", "b"], []), {"a": "abcdefgh", "b": "x"}).rooms(), ("abcdefgh", "x"))
        self.assertEqual(named_company(Company(["a", "b"], []), {"a": "abcdefgh", "b": "x"}).folk(), ("abcdefgh", "x"))

    def test_they_are_held_against_all_rooms_and_all_folk(self):
        with self.assertRaises(NoNames):
            named_house(parts(), {room: room for room in tree().rooms()})
        with self.assertRaises(NoNames):
            named_company(ropes_in_a_ring("wxyz"), {who: who for who in "wxy"})


if __name__ == "__main__":
    unittest.main()
