import time
import unittest

from samples import (all_standings, anything, grid, many_rooms, one_room, parts, reach, ring_of, rooms_by,
                     ropes_in_a_ring, ropes_in_a_row, row_of, sheaf, small_cases, square, standing_of, tailed, tree,
                     two_hubs)
from tautropes.company import Company
from tautropes.errors import NoStanding, TooMany
from tautropes.house import House
from tautropes.lots import lot, lots, standings_of
from tautropes.ways import is_led


def plain_listed(house, company):
    return sorted(rooms_by(company, standing) for standing in all_standings(house, company))


def plain_lots(house, company):
    """All lots, by a plain search over all standings from each that isn't in one yet."""
    told = []
    left = plain_listed(house, company)
    while left:
        found = sorted(reach(house, company, dict(zip(company.folk(), left[0]))))
        told.append(found)
        left = [rooms for rooms in left if rooms not in found]
    return sorted(told)


def cases():
    return small_cases() + [
        (square(), ropes_in_a_ring("vwxyz", ["x"])),
        (square(), Company(list("axyz"), [("a", "z"), ("x", "y")], ["x"])),
        (parts(), Company(["x", "y"], [], ["y"])),
        (grid(), Company(list("mxyz"), [("z", "m"), ("m", "y"), ("y", "x"), ("z", "x")])),
        (sheaf(), Company(list("vwxy"), [("v", "y"), ("y", "w"), ("w", "x"), ("x", "v")])),
        (tailed(), Company(list("wxyz"), row_of("wxyz") + [("w", "y")], ["w"])),
    ]


def forest(many, doors):
    """So many rooms, of which as many as there are doors and one more stand in a row."""
    names = [one + other for one in "abcdefgh" for other in "vwxyz"][:many]
    return House(names, row_of(names[:doors + 1]))


class Listed(unittest.TestCase):
    def test_held_against_a_plain_listing(self):
        for house, company in cases():
            told = standings_of(house, company)
            self.assertIs(type(told), list)
            self.assertEqual(told, plain_listed(house, company))
            self.assertTrue(all(type(rooms) is tuple for rooms in told))

    def test_posts_stand_anywhere(self):
        for posts in ((), ["x"], ["z", "x", "y"]):
            self.assertEqual(standings_of(house=square(), company=ropes_in_a_row("xyz", posts)),
                             standings_of(square(), ropes_in_a_row("xyz")))

    def test_one_folk_and_one_room(self):
        self.assertEqual(standings_of(tree(), Company(["x"], [])), [(room,) for room in "abcdef"])
        self.assertEqual(standings_of(one_room(), ropes_in_a_ring("abcdefghijkl")), [("a",) * 12])
        self.assertEqual(standings_of(one_room(), Company(list("xyz"), [])), [("a", "a", "a")])

    def test_rooms_without_doors(self):
        house = House(list("dcba"), [])
        self.assertEqual(standings_of(house, ropes_in_a_ring("abcdefghijkl")), [(room,) * 12 for room in "abcd"])
        self.assertEqual(len(standings_of(house, Company(list("vwxyz"), []))), 4 ** 5)

    def test_in_the_order_of_folk_not_of_ropes(self):
        # a hangs by b, which hangs by c, but the rooms come as a, b, c
        house = House(["p", "q", "r"], [("p", "r"), ("r", "q")])
        company = Company(list("cab"), [("c", "a"), ("c", "b")])
        self.assertIn(("p", "q", "r"), standings_of(house, company))
        self.assertNotIn(("p", "r", "q"), standings_of(house, company))
        self.assertEqual(standings_of(house, company), plain_listed(house, company))


class Lots(unittest.TestCase):
    def test_held_against_a_plain_search(self):
        several = 0
        for house, company in cases():
            told = lots(house, company)
            self.assertIs(type(told), list)
            self.assertTrue(all(type(found) is list for found in told))
            self.assertEqual(told, plain_lots(house, company))
            self.assertEqual(sorted(rooms for found in told for rooms in found), standings_of(house, company))
            several += len(told) > 1
        self.assertTrue(several > 5)

    def test_of_one_standing(self):
        for house, company in cases():
            for found in lots(house, company):
                for rooms in found[::29]:
                    standing = dict(zip(company.folk(), rooms))
                    kept = dict(standing)
                    self.assertEqual(lot(house, company, standing), found)
                    self.assertEqual(standing, kept)

    def test_those_that_are_led_to_one_another(self):
        for house, company in cases():
            told = standings_of(house, company)
            for rooms in told[::31]:
                standing = dict(zip(company.folk(), rooms))
                found = lot(house=house, company=company, standing=standing)
                for other in told[::17]:
                    self.assertEqual(is_led(house, company, standing, dict(zip(company.folk(), other))),
                                     other in found)

    def test_plain_ones(self):
        company = ropes_in_a_row("xy", ["x"])
        house = House(["a", "b"], [("a", "b")])
        self.assertEqual(lots(house=house, company=company), [[("a", "a"), ("a", "b")], [("b", "a"), ("b", "b")]])
        self.assertEqual(lots(house, ropes_in_a_row("xy")), [[("a", "a"), ("a", "b"), ("b", "a"), ("b", "b")]])
        self.assertEqual(lots(house, ropes_in_a_row("xy", ["y", "x"])),
                         [[("a", "a")], [("a", "b")], [("b", "a")], [("b", "b")]])
        self.assertEqual(lots(square(), Company(["x"], [])), [[("a",), ("b",), ("c",), ("d",)]])
        self.assertEqual([len(found) for found in lots(parts(), Company(["x"], []))], [5, 1, 3])

    def test_a_ring_of_ropes_round_a_ring_of_rooms(self):
        told = lots(square(), ropes_in_a_ring("wxyz"))
        # eight that are held altogether, and all others
        self.assertEqual(sorted(len(found) for found in told)[:-1], [1] * 8)
        self.assertIn([("a", "b", "c", "d")], told)


class TooManyOfThem(unittest.TestCase):
    def refused(self, house, company, standing=None):
        begin = time.perf_counter()
        calls = [lambda: standings_of(house, company), lambda: lots(house, company)]
        if standing is not None:
            calls.append(lambda: lot(house, company, standing))
        for call in calls:
            with self.assertRaises(TooMany) as caught:
                call()
            self.assertIs(type(caught.exception), TooMany)
            self.assertEqual(caught.exception.most, 2000)
        self.assertTrue(time.perf_counter() - begin < 5)

    def test_just_two_thousand(self):
        # ten rooms, and twenty standings of the two that are roped
        house = House(list("abcdefghij"), [("a", "b"), ("b", "c"), ("d", "e"), ("f", "g"), ("g", "h")])
        company = Company(list("wxyz"), [("y", "z")])
        told = standings_of(house, company)
        self.assertEqual(len(told), 2000)
        self.assertEqual(told, sorted(set(told)))
        found = lots(house, company)
        self.assertEqual(sum(len(some) for some in found), 2000)
        self.assertEqual(lot(house, company, standing_of("wxyz", "jjjj")), [("j", "j", "j", "j")])

    def stars(self, alone):
        """Four stars of rooms and so many rooms alone, and five folk of whom four are roped to the fifth."""
        names = [one + other for one in "abcdefgh" for other in "vwxyz"][:18 + alone]
        doors = [(names[begin], names[begin + k]) for begin, many in ((0, 4), (5, 4), (10, 3), (14, 3))
                 for k in range(1, many + 1)]
        return House(names, doors), Company(list("mwxyz"), [("m", who) for who in "wxyz"])

    def test_just_two_thousand_of_one_lot_and_one_more(self):
        house, company = self.stars(14)
        self.assertEqual(len(standings_of(house, company)), 2000)
        self.assertEqual(len(lots(house, company)), 18)
        self.assertEqual(len(lot(house, company, {who: "av" for who in "mwxyz"})), 5 ** 4 + 4 * 2 ** 4)
        house, company = self.stars(15)
        self.refused(house, company, {who: "av" for who in "mwxyz"})
        self.refused(house, company, {who: "gx" for who in "mwxyz"})

    def test_one_more(self):
        # twenty-nine rooms, and sixty-nine standings of the two that are roped
        company = Company(list("xyz"), [("y", "z")])
        self.refused(forest(29, 20), company, standing_of("xyz", ["av", "av", "av"]))
        self.assertEqual(len(standings_of(forest(29, 19), company)), 29 * 67)
        self.assertEqual(len(standings_of(forest(28, 20), company)), 28 * 68)
        # of one lot alone, and just fewer
        self.assertEqual(len(standings_of(House(["a", "b", "c"], row_of("abc")), ropes_in_a_row("tuvwxyz"))), 577)
        self.assertEqual(len(standings_of(House(["a", "b", "c"], row_of("abc")), ropes_in_a_row("stuvwxyz"))), 1393)
        self.refused(House(["a", "b", "c"], row_of("abc")), ropes_in_a_row("rstuvwxyz"))
        self.assertEqual(len(standings_of(House(["a", "b"], [("a", "b")]), ropes_in_a_ring("abcdefghij"))), 1024)
        self.refused(House(["a", "b"], [("a", "b")]), ropes_in_a_ring("abcdefghijk"))

    def test_one_standing_whose_own_lot_is_small(self):
        house, folk = square(), list("stuvwxyz")
        self.refused(house, ropes_in_a_ring(folk, folk), {who: "a" for who in folk})
        self.refused(house, Company(folk, [], folk), {who: "a" for who in folk})
        self.refused(House(["a", "b"], []), Company(list("opqrstuvwxyz"), []), {who: "a" for who in "opqrstuvwxyz"})

    def test_far_more_than_could_be_listed(self):
        names = list("abcdefghijklmnop")
        folk = list("abcdefghijkl")
        for house in (House(names, ring_of(names)), House(names, []), many_rooms(), two_hubs()):
            standing = {who: house.rooms()[0] for who in folk}
            chords = list(zip(folk, folk[2:] + folk[:2]))
            self.refused(house, Company(folk, []), standing)
            if house.doors():
                self.refused(house, ropes_in_a_row(folk), standing)
                self.refused(house, Company(folk, ring_of(folk) + chords), standing)
                self.refused(house, Company(folk, [(one, two) for one in folk[:2] for two in folk[2:]]), standing)
                self.refused(house, Company(folk, ring_of(folk[:6]) + ring_of(folk[6:])), standing)

    def test_many_folk_in_many_rooms_but_few_standings(self):
        names = list("abcdefghijklmnop")
        folk = list("abcdefghijkl")
        chords = list(zip(folk, folk[2:] + folk[:2]))
        self.assertEqual(len(standings_of(House(names, []), Company(folk, ring_of(folk) + chords))), 16)
        self.assertEqual(len(lots(House(names, []), Company(folk, ring_of(folk[:6]) + ring_of(folk[6:])))), 256)


class Told(unittest.TestCase):
    def test_told_anew(self):
        company = ropes_in_a_row("xy", ["x"])
        for call in (lambda: standings_of(square(), company), lambda: lots(square(), company),
                     lambda: lot(square(), company, {"x": "a", "y": "a"})):
            first, kept = call(), call()
            if isinstance(first[0], list):
                first[0].clear()
            first.clear()
            self.assertEqual(call(), kept)

    def test_what_is_no_standing_goes_ahead_of_too_many(self):
        for company in (ropes_in_a_row("xy"), ropes_in_a_row("opqrstuvwxyz")):
            for thing in anything() + [{"x": "a"}, {"x": "a", "y": "c"}, {who: "b" for who in "xyz"}]:
                with self.assertRaises(NoStanding) as caught:
                    lot(square(), company, thing)
                self.assertIs(type(caught.exception), NoStanding)
                self.assertIs(caught.exception.asked, thing)


if __name__ == "__main__":
    unittest.main()
