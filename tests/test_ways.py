import copy
import unittest

from samples import (all_standings, anything, many_rooms, one_going_on, parts, reach, ring_of, rooms_by,
                     ropes_in_a_ring, ropes_in_a_row, row_of, sheaf, small_cases, square, standing_of, tailed, tree,
                     two_rings)
from tautropes.company import Company
from tautropes.errors import NoFolk, NoStanding, NotLed
from tautropes.house import House
from tautropes.leads import all_leads, is_lead, spread
from tautropes.papers import is_paper
from tautropes.standings import gone
from tautropes.walks import behind, turned
from tautropes.ways import fewest, is_led, lead_to, least_of, way_to

NINE = "mnopqrstu"


def least_goings(house, company, standing, folk):
    """A dict from all standings that can be come to to how often this folk goes at least, by a plain search."""
    begin = rooms_by(company, standing)
    found = {begin: 0}
    now = [begin]
    many = 0
    while now:
        ahead = []
        while now:
            rooms = now.pop()
            for who, other in one_going_on(house, company, rooms):
                if who != folk and other not in found:
                    found[other] = many
                    now.append(other)
                elif who == folk:
                    ahead.append(other)
        many += 1
        for other in ahead:
            if other not in found:
                found[other] = many
                now.append(other)
    return found


def wider_cases():
    """Houses, companies and standings that can come to not too many others."""
    return [
        (square(), ropes_in_a_ring(NINE), standing_of(NINE, "abcdabcdd")),
        (square(), ropes_in_a_ring(NINE), standing_of(NINE, "adcbadcbb")),
        (square(), ropes_in_a_ring("uvwxyz"), standing_of("uvwxyz", "abcddd")),
        (tailed(), ropes_in_a_ring("uvwxyz"), standing_of("uvwxyz", "pabcda")),
        (tailed(), Company(list("uvwxyz"), ring_of("vwxyz") + [("u", "v")]), standing_of("uvwxyz", "paabcd")),
        (two_rings(), ropes_in_a_row("wxyz", ["z"]), standing_of("wxyz", "abcd")),
        (sheaf(), Company(list("uvwxyz"), ring_of("uvwxy") + [("y", "z"), ("z", "w")]),
         standing_of("uvwxyz", "xaybbb")),
        (square(), Company(list("stvwxyz"), ring_of("vwxyz") + [("s", "t")]), standing_of("stvwxyz", "abaabcd")),
        (tree(), Company(list("vwxyz"), row_of("vwxyz") + [("v", "x")]), standing_of("vwxyz", "aabde")),
    ]


def all_cases():
    for house, company in small_cases():
        for standing in all_standings(house, company)[::19]:
            yield house, company, standing
    yield from wider_cases()


class Led(unittest.TestCase):
    def test_held_against_a_plain_search(self):
        for house, company, one in all_cases():
            found = reach(house, company, one)
            for rooms in sorted(found)[::7]:
                other = dict(zip(company.folk(), rooms))
                kept = copy.deepcopy((one, other))
                self.assertIs(is_led(house, company, one, other), True)
                many = fewest(house, company, one, other)
                self.assertIs(type(many), int)
                self.assertEqual(many, found[rooms])
                row = way_to(house, company, one, other)
                self.assertIs(type(row), list)
                self.assertEqual(len(row), many)
                self.assertEqual(gone(house, company, one, row), other)
                lead = lead_to(house, company, one, other)
                self.assertEqual(sum(len(walk) - 1 for walk in lead.values()), many)
                self.assertIs(is_lead(house, company, one, other, lead), True)
                self.assertEqual((one, other), kept)

    def test_how_often_a_folk_goes_at_least(self):
        for house, company, one in all_cases():
            for folk in company.folk()[::2]:
                found = least_goings(house, company, one, folk)
                for rooms in sorted(found)[::11]:
                    other = dict(zip(company.folk(), rooms))
                    self.assertEqual(least_of(house, company, one, other, folk), found[rooms])

    def test_not_led(self):
        for house, company in small_cases():
            told = all_standings(house, company)
            for one in told[::23]:
                found = reach(house, company, one)
                for other in told[::11]:
                    if rooms_by(company, other) not in found:
                        self.not_led(house, company, one, other)

    def not_led(self, house, company, one, other):
        kept = copy.deepcopy((one, other))
        self.assertIs(is_led(house, company, one, other), False)
        for call in (fewest, way_to, lead_to, lambda *handed: least_of(*handed, company.folk()[-1])):
            with self.assertRaises(NotLed) as caught:
                call(house, company, one, other)
            self.assertIsInstance(caught.exception, LookupError)
            self.assertIs(is_paper(house, company, one, other, caught.exception.paper), True)
        self.assertEqual((one, other), kept)

    def test_itself(self):
        for house, company in small_cases():
            for one in all_standings(house, company)[::5]:
                self.assertIs(is_led(house, company, one, dict(one)), True)
                self.assertEqual(fewest(house, company, one, one), 0)
                self.assertEqual(way_to(house, company, one, one), [])
                self.assertEqual(lead_to(house, company, one, one), {who: (one[who],) for who in one})
                self.assertEqual(least_of(house, company, one, one, company.folk()[0]), 0)

    def test_one_folk_alone(self):
        company = Company(["x"], [])
        self.assertEqual(way_to(house=square(), company=company, one={"x": "a"}, other={"x": "b"}), [("x", "b")])
        self.assertEqual(fewest(house=tree(), company=company, one={"x": "a"}, other={"x": "f"}), 4)
        self.assertEqual(lead_to(house=tree(), company=company, one={"x": "a"}, other={"x": "f"}),
                         {"x": tuple("abdef")})
        self.assertEqual(least_of(house=tree(), company=company, one={"x": "a"}, other={"x": "f"}, folk="x"), 4)
        self.assertIs(is_led(house=parts(), company=company, one={"x": "a"}, other={"x": "x"}), False)
        self.not_led(parts(), company, {"x": "a"}, {"x": "x"})

    def test_lots_of_which_one_can_be_led_and_another_can_not(self):
        company = Company(list("stvwxyz"), ring_of("vwxyz") + [("s", "t")])
        one = standing_of("stvwxyz", "abaabcd")
        self.assertEqual(fewest(square(), company, one, {**one, "s": "b", "t": "b"}), 1)
        self.not_led(square(), company, one, standing_of("stvwxyz", "bbaadcb"))
        # of a folk whose own lot could be led, too
        with self.assertRaises(NotLed) as caught:
            least_of(square(), company, one, standing_of("stvwxyz", "bbaadcb"), "s")
        self.assertEqual(caught.exception.paper[0], "rings")
        posted = Company(list("xyz"), [("x", "y")], ["z"])
        self.not_led(square(), posted, standing_of("xyz", "aba"), standing_of("xyz", "bab"))

    def test_over_several_lots_goings_come_together(self):
        company = Company(list("wxyz"), [("w", "x"), ("y", "z")])
        one, other = standing_of("wxyz", "abab"), standing_of("wxyz", "cdcd")
        alone = ropes_in_a_row("wx")
        half = fewest(square(), alone, standing_of("wx", "ab"), standing_of("wx", "cd"))
        self.assertEqual(fewest(square(), company, one, other), 2 * half)

    def test_two_held_ones_whose_rope_walk_reads_otherwise(self):
        company = ropes_in_a_row("wxyz", ["w", "z"])
        self.not_led(square(), company, standing_of("wxyz", "abcc"), standing_of("wxyz", "addc"))
        self.not_led(square(), company, standing_of("wxyz", "abcc"), standing_of("wxyz", "abcb"))
        self.assertEqual(fewest(square(), company, standing_of("wxyz", "abcc"), standing_of("wxyz", "aabc")), 2)

    def test_rings_wound_otherwise(self):
        nine = ropes_in_a_ring(NINE)
        rooms = ("abcdabcdd", "abcdddddd", "adcbadcbb", "adcbbbbbb", "abababbba")
        for one in rooms:
            for other in rooms:
                if one != other:
                    self.not_led(square(), nine, standing_of(NINE, one), standing_of(NINE, other))


class Least(unittest.TestCase):
    def test_the_others_must_go_much_more_often(self):
        company = ropes_in_a_row("xyz")
        one, other = standing_of("xyz", "abc"), standing_of("xyz", "adc")
        self.assertEqual(fewest(square(), company, one, other), 6)
        self.assertEqual([least_of(square(), company, one, other, who) for who in "xyz"], [0, 2, 0])

    def test_where_the_best_for_all_is_not_the_least_of_one(self):
        # the ring of ropes could be turned so that r stays where it is, but then the others go more often
        company = Company(list("rstuvwxyz"), ring_of("vwxyz") + row_of("rstuv"))
        one, other = standing_of("rstuvwxyz", "aaaaaabcd"), standing_of("rstuvwxyz", "abbcdabbc")
        self.assertEqual(all_leads(square(), company, one, other, "r")[0], "turns")
        self.assertEqual(len(lead_to(square(), company, one, other)["r"]), 5)
        self.assertEqual(least_of(square(), company, one, other, "r"), 0)
        self.assertEqual(reach(square(), company, one)[rooms_by(company, other)],
                         fewest(square(), company, one, other))
        self.assertEqual(least_goings(square(), company, one, "r")[rooms_by(company, other)], 0)

    def test_where_rings_leave_but_one_lead(self):
        # two rings with a folk between them: the first must go round, by which the way between goes otherwise
        company = Company(list("mnopqrstuvw"), ring_of("mnopq") + ring_of("rstuv") + [("m", "w"), ("w", "r")])
        one = {**standing_of("mnopq", "aaxby"), **standing_of("rstuv", "bbzax"), "w": "x"}
        found = reach(sheaf(), company, one)
        for rooms in [rooms_by(company, {**one, "w": "y"})] + sorted(found)[::len(found) // 10]:
            other = dict(zip(company.folk(), rooms))
            self.assertEqual(all_leads(sheaf(), company, one, other, "m")[0], "one")
            self.assertEqual(fewest(sheaf(), company, one, other), found[rooms])
            self.assertEqual(gone(sheaf(), company, one, way_to(sheaf(), company, one, other)), other)

    def test_of_turns_no_other_number_of_them_has_fewer_steps(self):
        for house, company, one in wider_cases():
            found = sorted(reach(house, company, one))
            for rooms in found[::max(1, len(found) // 12)]:
                other = dict(zip(company.folk(), rooms))
                for lot in company.lots():
                    told = all_leads(house, company, one, other, lot[0])
                    if told[0] != "turns":
                        continue
                    lead = lead_to(house, company, one, other)
                    least = sum(len(lead[who]) - 1 for who in lot)
                    for way in (told[2], turned(told[2])):
                        walk = told[1]
                        for _ in range(12):
                            walks = spread(house, company, one, other, lot[0], walk)
                            self.assertTrue(sum(len(walks[who]) - 1 for who in lot) >= least)
                            walk = behind(way, walk)

    def test_far_round_a_long_ring(self):
        # sixteen rooms round: each way about is a lead, and the shorter one is told
        names = list("abcdefghijklmnop")
        house = House(names, ring_of(names))
        company = ropes_in_a_row("uvwxyz")
        one = {who: "a" for who in "uvwxyz"}
        for room, steps in (("h", 7), ("i", 8), ("j", 7), ("p", 1)):
            other = {who: room for who in one}
            self.assertEqual(fewest(house, company, one, other), 6 * steps)
            self.assertEqual(len(way_to(house, company, one, other)), 6 * steps)
            self.assertEqual(least_of(house, company, one, other, "w"), steps)

    def test_stretched_out_the_shortest_walk_of_one_is_not_the_best_of_all(self):
        names = list("abcdefghijkl")
        house = House(names, ring_of(names))
        company = ropes_in_a_row("tuvwxyz")
        one, other = standing_of("tuvwxyz", "abcdefg"), standing_of("tuvwxyz", "fedcbal")
        best = min(self.by(house, company, one, other, many) for many in range(-3, 4))
        self.assertEqual(fewest(house, company, one, other), best)

    def by(self, house, company, one, other, many):
        """The steps together where the first folk goes straight, but so many times round the house ahead."""
        walk = (one["t"],)
        ring = tuple("abcdefghijkla") if many > 0 else tuple("alkjihgfedcba")
        for _ in range(abs(many)):
            walk = behind(walk, ring)
        walks = spread(house, company, one, other, "t", behind(walk, house.way(one["t"], other["t"])))
        return sum(len(gone_by) - 1 for gone_by in walks.values())

    def test_big(self):
        house = many_rooms()
        folk = list("abcdefghijkl")
        company = Company(folk, ring_of(folk) + [(one, other) for one, other in zip(folk, folk[2:] + folk[:2])])
        rooms = house.rooms()
        one, other = {who: rooms[0] for who in folk}, {who: rooms[20] for who in folk}
        row = way_to(house, company, one, other)
        self.assertEqual(len(row), 12 * house.steps(rooms[0], rooms[20]))
        self.assertEqual(gone(house, company, one, row), other)
        self.assertEqual(fewest(house, company, one, other), len(row))
        self.assertEqual(least_of(house, company, one, other, "g"), house.steps(rooms[0], rooms[20]))

    def test_a_long_row_of_rooms(self):
        names = ["r" + sign for sign in "abcdefghijklmnop"]
        house = House(names, row_of(names))
        company = ropes_in_a_row("abcdefghijkl")
        one = dict(zip("abcdefghijkl", names))
        other = dict(zip("abcdefghijkl", names[::-1]))
        row = way_to(house, company, one, other)
        self.assertEqual(gone(house, company, one, row), other)
        self.assertEqual(len(row), sum(house.steps(one[who], other[who]) for who in one))


class Told(unittest.TestCase):
    def test_told_anew(self):
        company = ropes_in_a_row("xyz")
        one, other = standing_of("xyz", "abc"), standing_of("xyz", "bcd")
        row, lead = way_to(square(), company, one, other), lead_to(square(), company, one, other)
        kept = copy.deepcopy((row, lead))
        row.clear()
        lead.clear()
        self.assertEqual((way_to(square(), company, one, other), lead_to(square(), company, one, other)), kept)

    def test_refusals(self):
        company = ropes_in_a_ring("vwxyz")
        right, wound = standing_of("vwxyz", "aabcd"), standing_of("vwxyz", "aadcb")
        calls = (is_led, fewest, way_to, lead_to, lambda *handed: least_of(*handed, None))
        for thing in anything() + [standing_of("vwxyz", "aabdc"), standing_of("wxyz", "abcd")]:
            for call in calls:
                for one, other in ((thing, right), (right, thing), (thing, None)):
                    with self.assertRaises(NoStanding) as caught:
                        call(square(), company, one, other)
                    self.assertIs(caught.exception.asked, thing)
            if thing != "z":
                # ahead of what isn't led
                for other in (right, wound):
                    with self.assertRaises(NoFolk) as caught:
                        least_of(square(), company, right, other, thing)
                    self.assertIs(caught.exception.asked, thing)


if __name__ == "__main__":
    unittest.main()
