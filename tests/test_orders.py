import copy
import unittest

from samples import (all_standings, anything, no_names, one_going_on, reach, rooms_by, ropes_in_a_ring, ropes_in_a_row,
                     row_of, small_cases, square, standing_of, tailed, tree)
from tautropes.company import Company
from tautropes.errors import NoLead, NoNumber, NoStanding
from tautropes.leads import spread
from tautropes.orders import ahead, count_rows, row_at
from tautropes.standings import gone
from tautropes.ways import lead_to


def listed(house, company, one, lead):
    """All rows by a lead, by plain goings, in the order of tuples of goings."""
    rows = [[]]
    for _ in range(sum(len(walk) - 1 for walk in lead.values())):
        longer = []
        for row in rows:
            now = rooms_by(company, gone(house, company, one, row))
            for who, other in one_going_on(house, company, now):
                turn = len([going for going in row if going[0] == who]) + 1
                room = other[company.folk().index(who)]
                if lead[who][turn:turn + 1] == (room,):
                    longer.append(row + [(who, room)])
        rows = longer
    return sorted(rows)


def plainly_ahead(lead, rows):
    """All tuples of two goings of which the first comes ahead of the second in all these rows."""
    told = [(who, turn) for who in lead for turn in range(1, len(lead[who]))]
    places = [{(who, turn): [place for place, going in enumerate(row) if going[0] == who][turn - 1]
               for who, turn in told} for row in rows]
    return sorted((first, second) for first in told for second in told
                  if all(place[first] < place[second] for place in places))


def leads():
    """Small leads, of rows and of rings of ropes, wound or not, to a standing elsewhere or round to the same."""
    for house, company in small_cases():
        one = all_standings(house, company)[len(all_standings(house, company)) // 3]
        found = reach(house, company, one)
        for rooms in sorted(found)[::max(1, len(found) // 9)]:
            yield house, company, one, lead_to(house, company, one, dict(zip(company.folk(), rooms)))
    row = ropes_in_a_row("xyz")
    one = standing_of("xyz", "aab")
    for walk in (tuple("abcd"), tuple("adcb"), tuple("abcda")):
        other = {"x": walk[-1], "y": walk[-1], "z": walk[-1]}
        yield square(), row, one, spread(square(), row, one, other, "x", walk)
    ring = ropes_in_a_ring("vwxyz")
    one = standing_of("vwxyz", "aabcd")
    yield square(), ring, one, spread(square(), ring, one, standing_of("vwxyz", "bcdda"), "v", ("a", "b"))
    yield square(), ring, one, spread(square(), ring, one, standing_of("vwxyz", "bcdda"), "w", tuple("adc"))
    pair = ropes_in_a_row("xy")
    yield square(), pair, standing_of("xy", "ab"), {"x": tuple("abcda"), "y": tuple("bcdab")}
    yield square(), pair, standing_of("xy", "ab"), {"x": ("a", "b"), "y": ("b", "a")}
    yield square(), pair, standing_of("xy", "aa"), {"x": tuple("abcdabcda"), "y": tuple("abcdabcda")}
    yield tailed(), Company(["x", "y"], []), standing_of("xy", "aq"), {"x": tuple("abcda"), "y": tuple("qpab")}


class Rows(unittest.TestCase):
    def test_held_against_all_rows_listed_plainly(self):
        for house, company, one, lead in leads():
            if sum(len(walk) - 1 for walk in lead.values()) > 9 and len(lead) > 2:
                continue
            kept = copy.deepcopy((one, lead))
            rows = listed(house, company, one, lead)
            self.assertEqual(count_rows(house, company, one, lead), len(rows))
            for number in range(0, len(rows), max(1, len(rows) // 40)):
                told = row_at(house, company, one, lead, number)
                self.assertIs(type(told), list)
                self.assertEqual(told, rows[number])
            self.assertEqual(row_at(house, company, one, lead, len(rows) - 1), rows[-1])
            for number in (len(rows), len(rows) + 1, -1):
                with self.assertRaises(NoNumber) as caught:
                    row_at(house, company, one, lead, number)
                self.assertEqual(caught.exception.asked, number)
            told = ahead(house, company, one, lead)
            self.assertIs(type(told), list)
            self.assertEqual(told, plainly_ahead(lead, rows))
            self.assertEqual((one, lead), kept)

    def test_any_order_that_keeps_what_comes_ahead_can_be_gone(self):
        company = Company(list("wxyz"), row_of("wxyz"))
        one = standing_of("wxyz", "aabc")
        lead = spread(square(), company, one, {who: "d" for who in one}, "w", ("a", "b", "c", "d"))
        told = ahead(square(), company, one, lead)
        goings = [(who, turn) for who in lead for turn in range(1, len(lead[who]))]
        orders = [[]]
        for _ in goings:
            orders = [order + [going] for order in orders for going in goings if going not in order
                      and all(first in order for first, second in told if second == going)]
        rows = [[(who, lead[who][turn]) for who, turn in order] for order in orders]
        self.assertEqual(sorted(rows), listed(square(), company, one, lead))
        for row in rows:
            gone(square(), company, one, row)

    def test_of_no_steps(self):
        company = ropes_in_a_ring("wxyz")
        one = standing_of("wxyz", "abcd")
        lead = {who: (one[who],) for who in one}
        self.assertEqual(ahead(house=square(), company=company, one=one, lead=lead), [])
        self.assertEqual(count_rows(house=square(), company=company, one=one, lead=lead), 1)
        self.assertEqual(row_at(house=square(), company=company, one=one, lead=lead, number=0), [])
        with self.assertRaises(NoNumber) as caught:
            row_at(square(), company, one, lead, 1)
        self.assertEqual(caught.exception.asked, 1)

    def test_one_folk_alone(self):
        lead = {"x": tuple("abdef")}
        self.assertEqual(count_rows(tree(), Company(["x"], []), {"x": "a"}, lead), 1)
        self.assertEqual(row_at(tree(), Company(["x"], []), {"x": "a"}, lead, 0),
                         [("x", "b"), ("x", "d"), ("x", "e"), ("x", "f")])
        self.assertEqual(len(ahead(tree(), Company(["x"], []), {"x": "a"}, lead)), 6)

    def test_one_ahead_of_another(self):
        company = ropes_in_a_row("xyz")
        one = standing_of("xyz", "abb")
        lead = {"x": ("a", "d"), "y": ("b", "a", "d"), "z": ("b", "a", "d")}
        # x waits for y, which then may go behind it or ahead; y and z are but one room from each other
        self.assertEqual(ahead(square(), company, one, lead), [
            (("y", 1), ("x", 1)), (("y", 1), ("y", 2)), (("y", 1), ("z", 2)), (("z", 1), ("y", 2)),
            (("z", 1), ("z", 2))])
        self.assertEqual(row_at(square(), company, one, lead, 0),
                         [("y", "a"), ("x", "d"), ("z", "a"), ("y", "d"), ("z", "d")])

    def test_past_one_another(self):
        # two that change rooms may go either first
        lead = {"x": ("a", "b"), "y": ("b", "a")}
        company = ropes_in_a_row("xy")
        self.assertEqual(ahead(square(), company, standing_of("xy", "ab"), lead), [])
        self.assertEqual(count_rows(square(), company, standing_of("xy", "ab"), lead), 2)
        self.assertEqual(row_at(square(), company, standing_of("xy", "ab"), lead, 1), [("y", "a"), ("x", "b")])

    def test_round_more_than_once_rooms_come_again(self):
        # where x is in the room of y again, it is a whole round behind: no rope hangs so
        company = ropes_in_a_row("xy")
        lead = {"x": tuple("abcdabcda"), "y": tuple("abcdabcda")}
        one = standing_of("xy", "aa")
        self.assertEqual(count_rows(square(), company, one, lead), 2 ** 8)
        told = ahead(square(), company, one, lead)
        self.assertIn((("x", 1), ("y", 2)), told)
        self.assertIn((("x", 1), ("y", 8)), told)
        self.assertNotIn((("x", 2), ("y", 2)), told)

    def test_sixteen_goings_without_ropes(self):
        folk = list("abcdefghijkl")
        one = {who: "a" for who in folk}
        lead = {who: ("a", "b", "c") if who in "abcd" else ("a", "b") for who in folk}
        many = 1
        for number in range(2, 17):
            many *= number
        many //= 16
        company = Company(folk, [])
        self.assertEqual(count_rows(square(), company, one, lead), many)
        first = row_at(square(), company, one, lead, 0)
        self.assertEqual(first, sorted((who, room) for who in folk for room in lead[who][1:]))
        last = row_at(square(), company, one, lead, many - 1)
        self.assertEqual([who for who, _ in last], sorted([who for who, _ in first], reverse=True))
        self.assertEqual(ahead(square(), company, one, lead), [((who, 1), (who, 2)) for who in "abcd"])
        with self.assertRaises(NoNumber):
            row_at(square(), company, one, lead, many)

    def test_told_anew(self):
        company = ropes_in_a_row("xy")
        one, lead = standing_of("xy", "ab"), {"x": tuple("abcda"), "y": tuple("bcdab")}
        first = (ahead(square(), company, one, lead), row_at(square(), company, one, lead, 0))
        kept = copy.deepcopy(first)
        first[0].clear()
        first[1].clear()
        self.assertEqual((ahead(square(), company, one, lead), row_at(square(), company, one, lead, 0)), kept)


class Refusals(unittest.TestCase):
    def setUp(self):
        self.company = ropes_in_a_row("xyz")
        self.one = standing_of("xyz", "aab")
        self.lead = {"x": ("a", "b"), "y": ("a", "b"), "z": ("b",)}

    def calls(self, one, lead, number):
        yield lambda: ahead(square(), self.company, one, lead)
        yield lambda: count_rows(square(), self.company, one, lead)
        yield lambda: row_at(square(), self.company, one, lead, number)

    def no_lead(self, lead):
        kept = copy.deepcopy(lead)
        for call in self.calls(self.one, lead, None):
            with self.assertRaises(NoLead) as caught:
                call()
            self.assertEqual(caught.exception.names, ())
            self.assertIs(type(caught.exception.names), tuple)
        self.assertEqual(lead, kept)

    def test_no_standing_goes_ahead(self):
        for thing in anything() + [standing_of("xyz", "aca"), standing_of("xy", "ab")]:
            for call in self.calls(thing, None, None):
                with self.assertRaises(NoStanding) as caught:
                    call()
                self.assertIs(caught.exception.asked, thing)

    def test_then_what_is_no_lead_to_any_standing(self):
        self.assertEqual(count_rows(square(), self.company, self.one, self.lead), 2)
        for thing in anything():
            self.no_lead(thing)
            self.no_lead({"x": thing, "y": thing, "z": thing})
            if thing not in (("a",), ("a", "b"), ("a", "b", "c")):
                self.no_lead({**self.lead, "x": thing})
            self.no_lead({**self.lead, "z": thing})
            self.no_lead([self.lead, thing])
            self.no_lead({**self.lead, "x": ("a", "b", thing)})
        for who, walk in (("x", ["a", "b"]), ("x", ()), ("x", ("a", "b", "c", "d")), ("x", ("b",)), ("w", ("a",)),
                          ("x", ("a", "c")), ("x", ("a", "b", "a", "b")), ("z", tuple("bcdab")), (None, ("a",)),
                          (("x",), ("a",))):
            self.no_lead({**self.lead, who: walk})
        for who in "xyz":
            self.no_lead({key: self.lead[key] for key in "xyz" if key != who})

    def test_it_must_fit_ropes_and_held_ones(self):
        self.company = ropes_in_a_row("xyz", ["x"])
        self.no_lead(self.lead)
        # its ends are a standing, but the walks lead round the house on unlike sides
        self.company = ropes_in_a_row("xyz")
        self.one = standing_of("xyz", "aaa")
        self.no_lead({"x": ("a", "b", "c"), "y": ("a", "d", "c"), "z": ("a", "d", "c")})
        # each walk alone is right, but the ends are no standing
        self.no_lead({"x": ("a", "b"), "y": ("a", "d"), "z": ("a", "d")})

    def test_then_what_is_no_number(self):
        for thing in no_names() + ["a", 2, -1, 10 ** 30 - 1, -(10 ** 29)]:
            if thing in (0, 1) and not isinstance(thing, bool):
                continue
            with self.assertRaises(NoNumber) as caught:
                row_at(square(), self.company, self.one, self.lead, thing)
            self.assertIs(caught.exception.asked, thing)
            self.assertIsInstance(caught.exception, IndexError)
        self.assertEqual(row_at(square(), self.company, self.one, self.lead, 1), [("y", "b"), ("x", "b")])


if __name__ == "__main__":
    unittest.main()
