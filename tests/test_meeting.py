import copy
import unittest

from samples import (all_standings, anything, grid, many_rooms, parts, reach, ring_of, rooms_by, ropes_in_a_ring,
                     ropes_in_a_row, sheaf, small_cases, square, standing_of, tailed, tree, two_rings)
from tautropes.company import Company
from tautropes.errors import NoRoom, NoStanding, NotLed
from tautropes.house import House
from tautropes.meeting import meet, meetings
from tautropes.papers import is_paper
from tautropes.standings import gone, read
from tautropes.tension import rope_rings
from tautropes.walks import shrunk


def plain_meetings(house, company, standing):
    """All rooms where all can come together, by a plain search over all standings."""
    found = reach(house, company, standing)
    many = len(company.folk())
    return [(room, found[(room,) * many]) for room in house.rooms() if (room,) * many in found]


def cases():
    for house, company in small_cases():
        for standing in all_standings(house, company)[::7]:
            yield house, company, standing


class Meetings(unittest.TestCase):
    def test_held_against_a_plain_search(self):
        met = 0
        for house, company, standing in cases():
            kept = dict(standing)
            told = meetings(house, company, standing)
            self.assertIs(type(told), list)
            self.assertEqual(told, plain_meetings(house, company, standing))
            self.assertTrue(all(type(pair) is tuple for pair in told))
            self.assertEqual(standing, kept)
            met += len(told) > 0
        self.assertTrue(met > 50)

    def test_wider_ones_held_against_a_plain_search(self):
        for house, company, rooms in (
                (two_rings(), ropes_in_a_row("wxyz"), "abcd"), (two_rings(), ropes_in_a_row("wxyz"), "cdef"),
                (tailed(), ropes_in_a_ring("uvwxyz"), "pabbaa"), (tailed(), ropes_in_a_ring("uvwxyz"), "pabcda"),
                (grid(), ropes_in_a_ring("wxyz"), "abed"), (tree(), ropes_in_a_ring("vwxyz"), "abdbb"),
                (sheaf(), Company(list("vwxyz"), ring_of("vwxy") + [("y", "z")]), "xaybz"),
                (sheaf(), Company(list("vwxyz"), ring_of("vwxy") + [("y", "z")]), "xaxay")):
            standing = standing_of(company.folk(), rooms)
            told = plain_meetings(house, company, standing)
            self.assertEqual(meetings(house, company, standing), told)
            self.assertEqual(len(told) > 0, rooms not in ("pabcda", "abed", "xaybz"))

    def test_a_row_to_each_told_room(self):
        for house, company, standing in cases():
            told = dict(meetings(house, company, standing))
            for room in house.rooms():
                kept = dict(standing)
                if room in told:
                    row = meet(house, company, standing, room)
                    self.assertIs(type(row), list)
                    self.assertEqual(len(row), told[room])
                    self.assertEqual(gone(house, company, standing, row), {who: room for who in company.folk()})
                else:
                    self.not_led(house, company, standing, room)
                self.assertEqual(standing, kept)

    def not_led(self, house, company, standing, room):
        with self.assertRaises(NotLed) as caught:
            meet(house, company, standing, room)
        self.assertIs(type(caught.exception), NotLed)
        other = {who: room for who in company.folk()}
        self.assertIs(is_paper(house, company, standing, other, caught.exception.paper), True)

    def test_without_posts_just_where_nothing_winds_and_all_hangs_together(self):
        for house, company, standing in cases():
            if company.posts():
                continue
            winds = any(len(shrunk(read(standing, ring))) > 1 for folk in company.folk()
                        for ring in rope_rings(company, folk))
            begin = standing[company.folk()[0]]
            hang = all(house.way(begin, standing[who]) is not None for who in company.folk())
            told = meetings(house, company, standing)
            self.assertEqual(len(told) > 0, hang and not winds)
            if told:
                self.assertEqual([room for room, _ in told],
                                 [room for room in house.rooms() if house.way(begin, room) is not None])


class Edges(unittest.TestCase):
    def test_one_folk(self):
        company = Company(["x"], [])
        self.assertEqual(meetings(house=tree(), company=company, standing={"x": "f"}),
                         [("a", 4), ("b", 3), ("c", 4), ("d", 2), ("e", 1), ("f", 0)])
        self.assertEqual(meet(house=tree(), company=company, standing={"x": "f"}, room="d"), [("x", "e"), ("x", "d")])
        posted = Company(["x"], [], ["x"])
        self.assertEqual(meetings(tree(), posted, {"x": "f"}), [("f", 0)])
        self.assertEqual(meet(tree(), posted, {"x": "f"}, "f"), [])
        self.not_led(tree(), posted, {"x": "f"}, "e", ("held", "x", ()))

    def not_led(self, house, company, standing, room, paper):
        with self.assertRaises(NotLed) as caught:
            meet(house, company, standing, room)
        self.assertEqual(caught.exception.paper, paper)

    def test_all_in_one_room_already(self):
        company = ropes_in_a_ring("wxyz")
        standing = standing_of("wxyz", "cccc")
        self.assertEqual(meetings(square(), company, standing), [("a", 8), ("b", 4), ("c", 0), ("d", 4)])
        self.assertEqual(meet(square(), company, standing, "c"), [])
        self.assertEqual(meetings(square(), ropes_in_a_ring("wxyz", ["y"]), standing), [("c", 0)])

    def test_nothing_winds_but_a_post_stands_elsewhere(self):
        company = ropes_in_a_row("xyz", ["z"])
        standing = standing_of("xyz", "abc")
        self.assertEqual(meetings(square(), company, standing), [("c", 3)])
        self.not_led(square(), company, standing, "a", ("held", "z", ()))
        both = ropes_in_a_row("xyz", ["x", "z"])
        self.assertEqual(meetings(square(), both, standing), [])
        self.assertEqual(meetings(square(), both, standing_of("xyz", "aba")), [("a", 1)])

    def test_two_posts_in_one_room_and_a_row_of_ropes_round_the_ring(self):
        company = ropes_in_a_row("vwxyz", ["v", "z"])
        self.assertEqual(meetings(square(), company, standing_of("vwxyz", "abcda")), [])
        self.assertEqual(meetings(square(), company, standing_of("vwxyz", "abcba")), [("a", 4)])

    def test_rooms_that_do_not_hang_together(self):
        company = Company(["x", "y"], [])
        self.assertEqual(meetings(parts(), company, {"x": "a", "y": "x"}), [])
        self.assertEqual(meetings(parts(), company, {"x": "x", "y": "z"}), [("x", 2), ("y", 2), ("z", 2)])
        with self.assertRaises(NotLed) as caught:
            meet(parts(), company, {"x": "a", "y": "x"}, "x")
        self.assertEqual(caught.exception.paper, ("apart", "x"))

    def test_it_winds(self):
        company = ropes_in_a_ring("wxyz")
        self.assertEqual(meetings(square(), company, standing_of("wxyz", "abcd")), [])
        loose = ropes_in_a_ring("vwxyz")
        self.assertEqual(meetings(square(), loose, standing_of("vwxyz", "aabcd")), [])
        with self.assertRaises(NotLed) as caught:
            meet(square(), loose, standing_of("vwxyz", "aabcd"), "a")
        self.assertEqual(caught.exception.paper[0], "rings")

    def test_big(self):
        house = many_rooms()
        folk = list("abcdefghijkl")
        company = Company(folk, ring_of(folk) + list(zip(folk, folk[2:] + folk[:2])))
        standing = {who: house.rooms()[3] for who in folk}
        told = meetings(house, company, standing)
        self.assertEqual(told, [(room, 12 * house.steps(house.rooms()[3], room)) for room in house.rooms()])
        row = meet(house, company, standing, "hz")
        self.assertEqual(gone(house, company, standing, row), {who: "hz" for who in folk})


class Told(unittest.TestCase):
    def test_told_anew(self):
        company, standing = ropes_in_a_row("xyz"), standing_of("xyz", "abc")
        told, row = meetings(square(), company, standing), meet(square(), company, standing, "a")
        kept = copy.deepcopy((told, row))
        told.clear()
        row.clear()
        self.assertEqual((meetings(square(), company, standing), meet(square(), company, standing, "a")), kept)

    def test_what_is_no_standing(self):
        company = ropes_in_a_row("xy")
        wrong = [{"x": "a"}, {"x": "a", "y": "c"}, {"x": "a", "y": "b", "z": "a"}, {"x": "a", "y": 1}]
        for thing in anything() + wrong:
            for call in (meetings, lambda *handed: meet(*handed, "a"), lambda *handed: meet(*handed, None)):
                with self.assertRaises(NoStanding) as caught:
                    call(square(), company, thing)
                self.assertIs(type(caught.exception), NoStanding)
                self.assertIs(caught.exception.asked, thing)

    def test_what_is_no_room_goes_ahead_of_what_is_not_led(self):
        company = ropes_in_a_ring("wxyz")
        for standing in (standing_of("wxyz", "abcd"), standing_of("wxyz", "aaaa")):
            for thing in anything() + ["q", ["a"], ("a",)]:
                if thing in ("a", "b"):
                    continue
                with self.assertRaises(NoRoom) as caught:
                    meet(square(), company, standing, thing)
                self.assertIs(caught.exception.asked, thing)

    def test_names_shared_by_folk_and_rooms(self):
        house = House(["x", "y"], [("x", "y")])
        company = Company(["x", "y"], [("x", "y")])
        self.assertEqual(meetings(house, company, {"x": "y", "y": "x"}), [("x", 1), ("y", 1)])
        self.assertEqual(meet(house, company, {"x": "y", "y": "x"}, "y"), [("y", "y")])
        self.assertEqual(rooms_by(company, {"x": "y", "y": "x"}), ("y", "x"))


if __name__ == "__main__":
    unittest.main()
