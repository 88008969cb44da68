import copy
import unittest

from samples import (all_standings, anything, fits, many_rooms, parts, plain_read, plain_shrunk, plainly_goes_on,
                     plainly_held, reach, ring_of, rooms_by, rope_walks, ropes_in_a_ring, ropes_in_a_row, row_of, sheaf,
                     shrunk_walks, small_cases, square, standing_of)
from tautropes.company import Company
from tautropes.errors import NoStanding
from tautropes.papers import is_paper, paper
from tautropes.taut import held_paper
from tautropes.tension import rope_rings


def plainly_shows_held(company, standing, folk, thing):
    if folk in company.posts():
        return thing == ()
    return (len(thing) == 2 and all(walk[0] == folk and plainly_goes_on(company, standing, walk) for walk in thing)
            and standing[thing[0][1]] != standing[thing[1][1]])


def readings(one, other, walk):
    return plain_shrunk(plain_read(one, walk)), plain_shrunk(plain_read(other, walk))


def some_walk_leads(house, one, other, walks, most):
    """Whether any walk of at most so many steps leads all readings of the rope-walks."""
    folk = walks[0][0]
    for lead in shrunk_walks(house, one[folk], other[folk], most):
        for walk in walks:
            begin, end = readings(one, other, walk)
            if plain_shrunk(lead[::-1] + begin[1:] + lead[1:]) != end:
                break
        else:
            return True
    return False


def plainly_a_paper(house, company, one, other, thing):
    """The plain words of a paper of right form (of rings: no walk of at most twelve steps leads them)."""
    if thing[0] == "held":
        return plainly_shows_held(company, one, thing[1], thing[2]) and one[thing[1]] != other[thing[1]]
    if thing[0] == "walk":
        _, walk, first, last = thing
        if not plainly_shows_held(company, one, walk[0], first):
            return False
        begin, end = readings(one, other, walk)
        return plainly_shows_held(company, one, walk[-1], last) and begin != end
    if thing[0] == "apart":
        return not any(one[thing[1]] in part and other[thing[1]] in part for part in house.parts())
    return not some_walk_leads(house, one, other, thing[1], 12)


ROUND = standing_of("vwxyz", "aabcd")
OTHER_WAY = standing_of("vwxyz", "aadcb")
HOOP = ropes_in_a_ring("vwxyz")


class Papers(unittest.TestCase):
    def test_just_where_it_is_not_led(self):
        sorts = set()
        for house, company in small_cases():
            told = all_standings(house, company)
            for one in told[::17]:
                found = reach(house, company, one)
                for other in told[::3]:
                    kept = copy.deepcopy((one, other))
                    shown = paper(house, company, one, other)
                    if rooms_by(company, other) in found:
                        self.assertIsNone(shown)
                    else:
                        self.assertIs(type(shown), tuple)
                        self.assertTrue(plainly_a_paper(house, company, one, other, shown))
                        self.assertIs(is_paper(house, company, one, other, shown), True)
                        sorts.add(shown[0])
                    self.assertEqual((one, other), kept)
        self.assertEqual(sorts, {"held", "walk", "apart", "rings"})

    def test_where_it_is_led_nothing_is_one(self):
        for house, company in small_cases():
            told = all_standings(house, company)
            for one in told[::29]:
                found = reach(house, company, one)
                for other in told[::7]:
                    if rooms_by(company, other) in found:
                        for thing in self.of_right_form(house, company, one):
                            self.assertIs(is_paper(house, company, one, other, thing), False)

    def of_right_form(self, house, company, one):
        shown = {who: held_paper(house, company, one, who) for who in plainly_held(company, one)}
        for who in company.folk():
            yield "apart", who
            yield "held", who, shown.get(who, ())
            yield "rings", ((who,),)
            closed = [walk for walk in rope_walks(company, who, 5) if walk[-1] == who]
            yield "rings", tuple(closed[-3:])
            for walk in rope_walks(company, who, 3):
                yield "walk", walk, shown.get(walk[0], ()), shown.get(walk[-1], ())

    def test_all_of_right_form_held_against_the_plain_words(self):
        for house, company in small_cases():
            told = all_standings(house, company)
            for one in told[::31]:
                for other in told[::13]:
                    for thing in self.of_right_form(house, company, one):
                        right = plainly_a_paper(house, company, one, other, thing)
                        self.assertIs(is_paper(house, company, one, other, thing), right)

    def test_of_the_first_lot_that_is_not_led(self):
        company = Company(list("xyz"), [("x", "y")])
        self.assertIsNone(paper(house=square(), company=company, one=standing_of("xyz", "aba"),
                                other=standing_of("xyz", "cdc")))
        told = paper(parts(), company, standing_of("xyz", "aba"), standing_of("xyz", "abx"))
        self.assertEqual(told, ("apart", "z"))

    def test_one_folk(self):
        company = Company(["x"], [])
        self.assertIsNone(paper(parts(), company, {"x": "a"}, {"x": "c"}))
        self.assertEqual(paper(parts(), company, {"x": "a"}, {"x": "y"}), ("apart", "x"))
        posted = Company(["x"], [], ["x"])
        self.assertIsNone(paper(parts(), posted, {"x": "a"}, {"x": "a"}))
        self.assertEqual(paper(parts(), posted, {"x": "a"}, {"x": "b"}), ("held", "x", ()))

    def test_rings_wound_otherwise(self):
        for rooms in ("aadcb", "aaaaa"):
            told = paper(square(), HOOP, ROUND, standing_of("vwxyz", rooms))
            self.assertEqual(told[0], "rings")
            self.assertEqual(len(told[1]), 1)
        nine = ropes_in_a_ring("mnopqrstu")
        twice, once = standing_of("mnopqrstu", "abcdabcdd"), standing_of("mnopqrstu", "abcdddddd")
        self.assertIsNone(paper(square(), nine, twice, standing_of("mnopqrstu", "ccdabcdab")))
        for one, other in ((twice, once), (once, twice), (once, standing_of("mnopqrstu", "adcbbbbbb"))):
            told = paper(square(), nine, one, other)
            self.assertIs(is_paper(square(), nine, one, other, told), True)
            self.assertEqual(told[0], "rings")


class OfHeld(unittest.TestCase):
    def test_with_one_thing_otherwise(self):
        company = ropes_in_a_ring("wxyz")
        one, other = standing_of("wxyz", "abcd"), standing_of("wxyz", "bcda")
        shown = (tuple("wxyzwx"), tuple("wzyxwz"))

        def told(thing, where=one, there=other, of=company):
            return is_paper(house=square(), company=of, one=where, other=there, thing=thing)

        self.assertIs(told(("held", "w", shown)), True)
        for wrong in (["held", "w", shown], ("held", "w"), ("held", "w", shown, shown), ("held", "x", shown),
                      ("held", "w", shown[:1]), ("held", "w", ()), ("held", "w", list(shown)), ("walk", "w", shown),
                      ("held", "q", shown), ("held", None, shown), ("apart", "w", shown), ("rings", "w", shown),
                      ("held", "w", (shown[0], shown[0])), ("Held", "w", shown), (None, "w", shown), ("held",), ()):
            self.assertIs(told(wrong), False, wrong)
        self.assertIs(told(("held", "w", shown), there=one), False)
        self.assertIs(told(("held", "w", shown), where=standing_of("wxyz", "abbb")), False)
        self.assertIs(told(("held", "w", shown), of=ropes_in_a_ring("wxyz", ["w"])), False)
        self.assertIs(told(("held", "w", ()), of=ropes_in_a_ring("wxyz", ["w"])), True)

    def test_held_in_the_second_alone_is_no_paper(self):
        company = Company(list("wxyz"), row_of("wxyz"), ["w", "z"])
        one, other = standing_of("wxyz", "aaab"), standing_of("wxyz", "abab")
        self.assertIs(is_paper(square(), company, one, other, ("held", "x", (("x", "w"), ("x", "y", "z")))), False)


class OfWalk(unittest.TestCase):
    def test_between_posts(self):
        company = ropes_in_a_row("wxyz", ["w", "z"])
        one, other = standing_of("wxyz", "abcc"), standing_of("wxyz", "addc")
        right = ("walk", tuple("wxyz"), (), ())

        def told(thing, there=other, of=company):
            return is_paper(square(), of, one, there, thing)

        self.assertIs(told(right), True)
        self.assertIs(told(("walk", tuple("zyxw"), (), ())), True)
        self.assertIs(told(("walk", tuple("wxwxyxyz"), (), ())), True)
        for wrong in (["walk", tuple("wxyz"), (), ()], ("walk", list("wxyz"), (), ()), ("walk", tuple("wxyz"), ()),
                      ("walk", tuple("wxyz"), (), (), ()), ("walk", tuple("wxy"), (), ()), ("walk", "wxyz", (), ()),
                      ("walk", tuple("xyz"), (), ()), ("walk", ("w", "z"), (), ()), ("walk", (), (), ()),
                      ("walk", tuple("wxyz"), [], ()), ("walk", tuple("wxyz"), (), None),
                      ("held", tuple("wxyz"), (), ()), ("walk", tuple("wxw"), (), ()), ("walk", ("w",), (), ()),
                      ("walk", tuple("wxyzq"), (), ())):
            self.assertIs(told(wrong), False, wrong)
        # unlike, but they shrink to one walk
        self.assertIs(told(right, there=standing_of("wxyz", "abbc")), False)
        self.assertIs(told(right, of=ropes_in_a_row("wxyz", ["w"])), False)

    def test_back_to_a_held_one(self):
        company = ropes_in_a_ring("vwxyz", ["v"])
        for walk in (tuple("vwxyzv"), tuple("vzyxwv"), tuple("vwxyzvwxyzv")):
            self.assertIs(is_paper(square(), company, ROUND, OTHER_WAY, ("walk", walk, (), ())), True)
            self.assertIs(is_paper(square(), company, ROUND, standing_of("vwxyz", "abbcd"), ("walk", walk, (), ())),
                          False)
        self.assertIs(is_paper(square(), HOOP, ROUND, OTHER_WAY, ("walk", tuple("vwxyzv"), (), ())), False)

    def test_between_two_rings(self):
        # two taut rings and a loose row between them that goes the other way about the house
        company = Company(list("abcdefghij"), ring_of("abcd") + ring_of("ghij") + row_of("aefg"))
        one = {**standing_of("abcdghij", "abcdcdab"), "e": "b", "f": "b"}
        other = {**one, "e": "d", "f": "d"}
        shown = paper(square(), company, one, other)
        self.assertEqual(shown[0], "walk")
        self.assertTrue(plainly_a_paper(square(), company, one, other, shown))
        self.assertTrue(fits(square(), company, one) and fits(square(), company, other))
        _, walk, first, last = shown
        self.assertIs(is_paper(square(), company, one, other, ("walk", walk, first, last)), True)
        for wrong in (("walk", walk, last, first), ("walk", walk, first, first), ("walk", walk[1:], first, last),
                      ("walk", walk, first, last[:1]), ("walk", walk, (), last)):
            self.assertIs(is_paper(square(), company, one, other, wrong), False)
        self.assertIs(is_paper(square(), company, one, {**other, "e": "b", "f": "c"}, shown), False)


class OfApart(unittest.TestCase):
    def test_with_one_thing_otherwise(self):
        company = Company(list("xyz"), [("x", "y")])
        one, other = standing_of("xyz", "aba"), standing_of("xyz", "xyb")
        for who, right in (("x", True), ("y", True), ("z", False), ("q", False), (None, False), (("x",), False)):
            self.assertIs(is_paper(parts(), company, one, other, ("apart", who)), right)
        for wrong in (["apart", "x"], ("apart",), ("apart", "x", "y"), ("apart", "x", ()), ("held", "x"), "apart",
                      ("rings", "x"), {"apart": "x"}):
            self.assertIs(is_paper(parts(), company, one, other, wrong), False, wrong)
        # of a held one, too
        posted = Company(list("xyz"), [("x", "y")], ["x"])
        self.assertIs(is_paper(parts(), posted, one, other, ("apart", "x")), True)


class OfRings(unittest.TestCase):
    def told(self, thing, one=ROUND, other=OTHER_WAY, company=HOOP):
        return is_paper(square(), company, one, other, thing)

    def test_with_one_thing_otherwise(self):
        ring = tuple("vwxyzv")
        self.assertIs(self.told(("rings", (ring,))), True)
        self.assertIs(self.told(("rings", (ring, ("v",), ring[::-1]))), True)
        self.assertIs(self.told(("rings", (("v",), ring))), True)
        self.assertIs(self.told(("rings", (tuple("xyzvwx"),))), True)
        for wrong in (["rings", (ring,)], ("rings", [ring]), ("rings", ()), ("rings", (ring,) * 4), ("rings", ring),
                      ("rings", (list(ring),)), ("rings", (ring[:-1],)), ("rings", (("v",),)), ("rings", ((),)),
                      ("rings", (ring, tuple("xyzvwx"))), ("rings", (ring, tuple("vwx"))), ("rings", (ring,), ()),
                      ("rings", (tuple("vwxwv"),)), ("rings",), ("rings", ("vwxyzv",)), ("rings", {ring: ring}),
                      ("walk", (ring,)), ("rings", (tuple("vwxyv"),)), ("rings", (tuple("vwxyzqv"),))):
            self.assertIs(self.told(wrong), False, wrong)
        self.assertIs(self.told(("rings", (ring,)), other=standing_of("vwxyz", "bccda")), False)

    def test_of_held_ones_too(self):
        company = ropes_in_a_ring("wxyz", ["w"])
        one, other = standing_of("wxyz", "abcd"), standing_of("wxyz", "adcb")
        self.assertIs(self.told(("rings", (tuple("wxyzw"),)), one, other, company), True)
        # a held one elsewhere bars by itself: the rings could be led
        self.assertIs(self.told(("rings", (tuple("wxyzw"),)), one, standing_of("wxyz", "bcda"), company), False)

    def test_where_the_rooms_do_not_hang_together_no_walk_leads_any(self):
        company = ropes_in_a_row("xy")
        one, other = standing_of("xy", "ab"), standing_of("xy", "xy")
        for walks in ((("x",),), (("y",), ("y", "x", "y"))):
            self.assertIs(is_paper(parts(), company, one, other, ("rings", walks)), True)
            self.assertIs(is_paper(parts(), company, one, standing_of("xy", "bc"), ("rings", walks)), False)

    def test_two_and_three_together(self):
        # three rings of which each two could be led, but not all
        ropes = [("a", "e"), ("e", "c"), ("a", "f"), ("f", "c"), ("a", "g"), ("g", "c")]
        company = Company(list("acefghijklm"), ropes + row_of("ahi") + ring_of("ijklm"))
        one = {**standing_of("acefg", "abxyz"), "h": "x", **standing_of("ijklm", "bbzax")}
        other = {**one, "h": "y"}
        rings = (tuple("aecfa"), tuple("afcga"), tuple("ahijklmiha"))
        self.assertTrue(fits(sheaf(), company, one) and fits(sheaf(), company, other))
        self.assertIs(is_paper(sheaf(), company, one, other, ("rings", rings)), True)
        self.assertIs(is_paper(sheaf(), company, one, other, ("rings", rings[::-1])), True)
        for left in range(3):
            pair = rings[:left] + rings[left + 1:]
            self.assertTrue(some_walk_leads(sheaf(), one, other, pair, 12))
            self.assertIs(is_paper(sheaf(), company, one, other, ("rings", pair)), False)
        self.assertIs(is_paper(sheaf(), company, one, one, ("rings", rings)), False)
        # of two that don't go together, in a house where no number of turns leads the second
        house = sheaf("wxyz")
        other = {**one, "h": "w"}
        self.assertIs(is_paper(house, company, one, other, ("rings", (rings[0], rings[2]))), True)
        self.assertIs(is_paper(house, company, one, other, ("rings", rings[:1])), False)
        self.assertIs(is_paper(house, company, one, other, ("rings", rings[2:])), False)

    def test_as_long_as_rope_walks_come(self):
        # the ring of five eleven times about has but fifty-five ropes
        longest = tuple("vwxyz" * 11 + "v")
        other = standing_of("vwxyz", "bccda")
        self.assertIs(self.told(("rings", (longest,))), True)
        self.assertIs(self.told(("rings", (longest,)), other=other), False)
        self.assertIs(self.told(("rings", (longest, longest[::-1], tuple("vwxyzv"))), other=other), False)


class OfAnything(unittest.TestCase):
    def test_of_anything(self):
        company = ropes_in_a_row("wxyz", ["w", "z"])
        one, other = standing_of("wxyz", "abcc"), standing_of("wxyz", "addc")
        self.assertIs(is_paper(square(), company, one, other, ("walk", tuple("wxyz"), (), ())), True)
        for thing in anything():
            for wrong in (thing, (thing,), ("held", thing), ("held", thing, thing), ("held", "w", thing),
                          ("walk", thing, (), ()), ("walk", tuple("wxyz"), thing, None), (thing, tuple("wxyz"), (), ()),
                          ("walk", tuple("wxyz") + (thing,), (), ()), ("apart", thing), (thing, "w"), ("rings", thing),
                          ("rings", (thing,)), ("rings", ((thing,),)), ("rings", (("w",), thing)), ("walk", thing)):
                self.assertIs(is_paper(square(), company, one, other, wrong), False, wrong)
            self.assertIs(is_paper(square(), company, one, other, ("walk", tuple("wxyz"), thing, ())), thing == ())
            self.assertIs(is_paper(square(), company, one, other, ("walk", tuple("wxyz"), (), thing)), thing == ())

    def test_what_is_no_standing_goes_ahead(self):
        right = standing_of("vwxyz", "aabcd")
        for thing in anything() + [standing_of("vwxyz", "aabdc"), standing_of("wxyz", "abcd")]:
            for call in (lambda one, other: paper(square(), HOOP, one, other),
                         lambda one, other: is_paper(square(), HOOP, one, other, None)):
                for one, other in ((thing, right), (right, thing), (thing, None)):
                    with self.assertRaises(NoStanding) as caught:
                        call(one, other)
                    self.assertIs(caught.exception.asked, thing)

    def test_big(self):
        house = many_rooms()
        folk = list("abcdefghijkl")
        company = Company(folk, ring_of(folk), ["a", "g"])
        ring = house.way("av", "cv")
        one = {who: "av" for who in folk}
        other = {**one, "c": ring[1]}
        self.assertIsNone(paper(house, company, one, other))
        shown = paper(house, company, one, {**one, "a": "aw"})
        self.assertEqual(shown, ("held", "a", ()))
        self.assertEqual(rope_rings(company, "a"), [tuple("abcdefghijkla")])


if __name__ == "__main__":
    unittest.main()
