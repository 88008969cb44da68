import copy
import unittest

from samples import (all_standings, anything, fits, many_rooms, one_room, parts, plainly_goes_on, plainly_held,
                     plainly_taut, reach, ring_of, rope_walks, ropes_in_a_ring, ropes_in_a_row, row_of,
                     sheaf, small_cases, square, standing_of, tailed)
from tautropes.company import Company
from tautropes.errors import NoFolk, NotHeld, NoStanding
from tautropes.taut import goes_on, held, held_paper, is_taut, shows_held

ROUND = standing_of("wxyz", "abcd")


def hoop(posts=()):
    return ropes_in_a_ring("wxyz", posts)


def dumb_bell():
    """Two rings of ropes round the square, with a row of two ropes between them: e, f, g."""
    ropes = ring_of("abcd") + ring_of("ghij") + row_of("aefg")
    return Company(list("abcdefghij"), ropes)


class IsTaut(unittest.TestCase):
    def test_all_rope_walks_of_small_companies(self):
        for house, company in small_cases():
            for standing in all_standings(house, company)[::7]:
                for folk in company.folk():
                    for walk in rope_walks(company, folk, 4):
                        self.assertIs(is_taut(standing, walk), plainly_taut(standing, walk))
                        self.assertIs(goes_on(company, standing, walk), plainly_goes_on(company, standing, walk))

    def test_one_folk_is_not_taut(self):
        self.assertIs(is_taut(ROUND, ("w",)), False)
        self.assertIs(is_taut(standing=ROUND, rope_walk=("w", "x")), True)

    def test_side_by_side_and_with_one_between(self):
        self.assertIs(is_taut(standing_of("xyz", "abb"), ("x", "y", "z")), False)
        self.assertIs(is_taut(standing_of("xyz", "aab"), ("x", "y", "z")), False)
        self.assertIs(is_taut(standing_of("xyz", "aba"), ("x", "y", "z")), False)
        self.assertIs(is_taut(standing_of("xyz", "abc"), ("x", "y", "z")), True)
        self.assertIs(is_taut(standing_of("xyz", "abc"), ("x", "y", "x")), False)
        # those with two between may stand in one room
        self.assertIs(is_taut(standing_of("wxyz", "abca"), ("w", "x", "y", "z")), True)

    def test_sixty_folk(self):
        self.assertIs(is_taut(ROUND, tuple("wxyz" * 15)), True)
        self.assertIs(is_taut(ROUND, tuple("wxyz" * 14 + "wxwx")), False)


class GoesOn(unittest.TestCase):
    def test_at_a_post(self):
        standing = standing_of("xyz", "abc")
        company = ropes_in_a_row("xyz", ["z"])
        self.assertIs(goes_on(company, standing, ("x", "y", "z")), True)
        self.assertIs(goes_on(company=company, standing=standing, rope_walk=("y", "z")), True)
        self.assertIs(goes_on(company, standing, ("x", "y")), False)
        self.assertIs(goes_on(company, standing, ("z", "y", "x")), False)
        self.assertIs(goes_on(company, standing, ("z", "y")), False)

    def test_a_post_alone_is_not_taut(self):
        self.assertIs(goes_on(ropes_in_a_row("xyz", ["z"]), standing_of("xyz", "abc"), ("z",)), False)

    def test_through_a_post(self):
        company = ropes_in_a_row("wxyz", ["x", "z"])
        self.assertIs(goes_on(company, ROUND, ("w", "x", "y", "z")), True)
        self.assertIs(goes_on(company, ROUND, ("w", "x", "y")), False)
        self.assertIs(goes_on(company, ROUND, ("w", "x")), True)

    def test_round_to_two_folk_ahead(self):
        self.assertIs(goes_on(hoop(), ROUND, tuple("wxyzwx")), True)
        self.assertIs(goes_on(hoop(), ROUND, tuple("wxyzw")), False)
        self.assertIs(goes_on(hoop(), ROUND, tuple("wx")), False)
        self.assertIs(goes_on(hoop(), ROUND, tuple("wxyzwxyzwx")), True)
        self.assertIs(goes_on(hoop(), ROUND, tuple("wzyxwz")), True)

    def test_round_but_in_the_other_order(self):
        # a, then round a ring and back through the same rope the other way about
        house_of = standing_of("pabcd", "qabcd")
        company = Company(list("pabcd"), ring_of("abcd") + [("p", "a")])
        self.assertIs(goes_on(company, {**house_of, "p": "p"}, tuple("pabcda")), False)
        self.assertIs(goes_on(company, {**house_of, "p": "p"}, tuple("pabcdap")), False)
        self.assertIs(goes_on(company, {**house_of, "p": "p"}, tuple("pabcdab")), True)

    def test_what_is_not_taut_does_not(self):
        self.assertIs(goes_on(hoop(["x"]), standing_of("wxyz", "aabb"), ("w", "x")), False)
        self.assertIs(goes_on(ropes_in_a_row("xyz", ["z"]), standing_of("xyz", "aba"), ("x", "y", "z")), False)


class Held(unittest.TestCase):
    def test_all_standings_of_small_companies(self):
        for house, company in small_cases():
            for standing in all_standings(house, company):
                kept = dict(standing)
                told = held(house, company, standing)
                self.assertIs(type(told), list)
                self.assertEqual(told, plainly_held(company, standing))
                self.assertEqual(standing, kept)

    def test_held_ones_never_go(self):
        for house, company in small_cases():
            for standing in all_standings(house, company)[::9]:
                places = [company.folk().index(who) for who in held(house, company, standing)]
                for rooms in reach(house, company, standing):
                    self.assertEqual([rooms[place] for place in places],
                                     [standing[company.folk()[place]] for place in places])

    def test_rings(self):
        self.assertEqual(held(house=square(), company=hoop(), standing=ROUND), ["w", "x", "y", "z"])
        self.assertEqual(held(square(), hoop(), standing_of("wxyz", "abcb")), [])
        self.assertEqual(held(square(), ropes_in_a_ring("vwxyz"), standing_of("vwxyz", "aabcd")), [])
        eight = ropes_in_a_ring("abcdefgh")
        self.assertEqual(held(square(), eight, standing_of("abcdefgh", "abcdabcd")), list("abcdefgh"))

    def test_posts_and_those_between(self):
        company = ropes_in_a_row("vwxyz", ["w", "z"])
        self.assertEqual(held(square(), company, standing_of("vwxyz", "dabcd")), ["w", "x", "y", "z"])
        self.assertEqual(held(square(), company, standing_of("vwxyz", "dabcc")), ["w", "z"])
        self.assertEqual(held(square(), company, standing_of("vwxyz", "dabbc")), ["w", "z"])
        self.assertEqual(held(one_room(), company, standing_of("vwxyz", "aaaaa")), ["w", "z"])
        self.assertEqual(held(square(), Company(["x"], []), {"x": "a"}), [])
        self.assertEqual(held(square(), Company(["x"], [], ["x"]), {"x": "a"}), ["x"])

    def test_between_two_rings(self):
        loose = {**standing_of("abcdghij", "abcdcdab"), "e": "d", "f": "d"}
        self.assertEqual(held(square(), dumb_bell(), loose), list("abcdghij"))
        taut = {**standing_of("abcdghij", "abcddcba"), "e": "b", "f": "c"}
        self.assertEqual(held(square(), dumb_bell(), taut), list("abcdefghij"))

    def test_a_folk_beside_one_held(self):
        company = Company(list("vwxyz"), ring_of("wxyz") + [("v", "w")])
        self.assertEqual(held(tailed(), company, {**standing_of("wxyz", "abcd"), "v": "p"}), ["w", "x", "y", "z"])
        self.assertEqual(held(tailed(), company, {**standing_of("wxyz", "abcd"), "v": "b"}), ["w", "x", "y", "z"])

    def test_seconds_in_one_room(self):
        # two posts in one room hold nobody between them
        company = Company(["x", "y", "z"], [("x", "y"), ("y", "z")], ["x", "z"])
        self.assertEqual(held(square(), company, standing_of("xyz", "aba")), ["x", "z"])
        self.assertEqual(held(square(), company, standing_of("xyz", "abc")), ["x", "y", "z"])

    def test_told_anew(self):
        first = held(square(), hoop(), ROUND)
        first.clear()
        self.assertEqual(held(square(), hoop(), ROUND), ["w", "x", "y", "z"])


class Papers(unittest.TestCase):
    def plain_paper(self, company, standing, folk, thing):
        """The plain words of a paper, of a tuple of rope-walks."""
        if folk in company.posts():
            return thing == ()
        if len(thing) != 2 or thing[0][0] != folk or thing[1][0] != folk:
            return False
        if not all(plainly_goes_on(company, standing, walk) for walk in thing):
            return False
        return standing[thing[0][1]] != standing[thing[1][1]]

    def test_of_each_held_one_of_small_companies(self):
        for house, company in small_cases():
            for standing in all_standings(house, company):
                for folk in held(house, company, standing):
                    told = held_paper(house, company, standing, folk)
                    self.assertIs(type(told), tuple)
                    self.assertTrue(self.plain_paper(company, standing, folk, told))
                    self.assertIs(shows_held(house, company, standing, folk, told), True)

    def test_of_who_is_not_held(self):
        for house, company in small_cases():
            for standing in all_standings(house, company)[::3]:
                for folk in company.folk():
                    if folk not in plainly_held(company, standing):
                        with self.assertRaises(NotHeld) as caught:
                            held_paper(house, company, standing, folk)
                        self.assertEqual(caught.exception.asked, folk)
                        self.assertIsInstance(caught.exception, LookupError)

    def test_post(self):
        told = held_paper(house=square(), company=hoop(["w"]), standing=ROUND, folk="w")
        self.assertEqual(told, ())
        self.assertIs(shows_held(square(), hoop(["w"]), ROUND, "w", ()), True)
        # this alone: of a post no rope-walks, of another one not ()
        ring = (tuple("wxyzwx"), tuple("wzyxwz"))
        self.assertIs(shows_held(square(), hoop(["w"]), ROUND, "w", ring), False)
        self.assertIs(shows_held(square(), hoop(), ROUND, "w", ring), True)
        self.assertIs(shows_held(square(), hoop(), ROUND, "w", ()), False)
        self.assertIs(shows_held(square(), hoop(["w"]), ROUND, "x", ()), False)
        self.assertIs(shows_held(square(), hoop(["w"]), ROUND, "w", []), False)

    def test_all_pairs_of_rope_walks(self):
        for house, company in [(square(), hoop()), (square(), ropes_in_a_row("wxyz", ["w", "z"])),
                               (square(), Company(list("wxyz"), ring_of("xyz") + [("w", "x")], ["w"]))]:
            for standing in all_standings(house, company)[::5]:
                for folk in company.folk():
                    walks = [walk for walk in rope_walks(company, folk, 6) if plainly_taut(standing, walk)]
                    for one in walks:
                        for other in walks:
                            self.assertIs(shows_held(house, company, standing, folk, (one, other)),
                                          self.plain_paper(company, standing, folk, (one, other)))

    def test_with_one_thing_otherwise(self):
        one, other = tuple("wxyzwx"), tuple("wzyxwz")
        right = (one, other)
        self.assertIs(shows_held(house=square(), company=hoop(), standing=ROUND, folk="w", thing=right), True)
        for wrong in ((one,), (one, other, one), (one, one), (other, other), (other[1:], one), (one, other[:-1]),
                      (one[:-1], other), (one, ("w",)), (one, ()), (list(one), other), [one, other], (one, "wzyxwz"),
                      ("wx", "wz"), (one, other + ("w",) * 2), (tuple("wxyxwx"), other), {one: other},
                      (one, tuple("xwzyxw")), (one, other[:-1] + ("q",)), (one, (None,) + other)):
            self.assertIs(shows_held(square(), hoop(), ROUND, "w", wrong), False)
        self.assertIs(shows_held(square(), hoop(), ROUND, "x", right), False)
        self.assertIs(shows_held(square(), hoop(), ROUND, "w", (other, one)), True)
        self.assertIs(shows_held(square(), hoop(), standing_of("wxyz", "abbb"), "w", right), False)
        longer = (tuple("wxyz" * 15), other)
        self.assertIs(shows_held(square(), hoop(), ROUND, "w", longer), True)

    def test_of_anything(self):
        for thing in anything():
            self.assertIs(shows_held(square(), hoop(), ROUND, "w", thing), False)
            self.assertIs(shows_held(square(), hoop(["w"]), ROUND, "w", thing), thing == ())
            for pair in ((thing, tuple("wzyxwz")), (tuple("wxyzwx"), thing), (thing, thing), (("w", thing),) * 2):
                self.assertIs(shows_held(square(), hoop(), ROUND, "w", pair), False)

    def test_in_a_big_company(self):
        house = many_rooms()
        folk = list("abcdefghijkl")
        ring = house.rooms()[:3]
        company = Company(folk, [(one, other) for k, one in enumerate(folk) for other in folk[:k]][:24], ["a"])
        standing = {who: ring[0] for who in folk}
        self.assertEqual(held(house, company, standing), ["a"])

    def test_papers_are_no_longer_than_can_be_handed_in(self):
        house = sheaf("uvwxyz")
        hubs, middle = "abcdef", "ghijkl"
        ropes = [(one, other) for k, one in enumerate(hubs) for other in (middle + middle)[k:k + 4]]
        company = Company(list(hubs + middle), ropes)
        standing = {**standing_of(hubs, "ababab"), **standing_of(middle, "uvwxyz")}
        self.assertTrue(fits(house, company, standing))
        for folk in held(house, company, standing):
            told = held_paper(house, company, standing, folk)
            self.assertTrue(self.plain_paper(company, standing, folk, told))
            self.assertTrue(all(len(walk) <= 60 for walk in told))
        self.assertEqual(held(house, company, standing), list(hubs + middle))


class Refusals(unittest.TestCase):
    def test_no_standing_ahead_of_no_folk(self):
        kept = copy.deepcopy(ROUND)
        for thing in anything() + [standing_of("wxyz", "aacd"), standing_of("xyz", "abc")]:
            for call in (lambda: held(square(), hoop(), thing), lambda: held_paper(square(), hoop(), thing, None),
                         lambda: shows_held(square(), hoop(), thing, [], None)):
                with self.assertRaises(NoStanding) as caught:
                    call()
                self.assertEqual(caught.exception.asked, thing)
        self.assertEqual(ROUND, kept)

    def test_no_folk(self):
        for thing in anything():
            if thing in ("w", "x", "y", "z"):
                continue
            for call in (lambda: held_paper(square(), hoop(), ROUND, thing),
                         lambda: shows_held(square(), hoop(), ROUND, thing, ())):
                with self.assertRaises(NoFolk) as caught:
                    call()
                self.assertEqual(caught.exception.asked, thing)

    def test_parts_do_not_matter(self):
        company = ropes_in_a_row("xy", ["x"])
        self.assertEqual(held(parts(), company, {"x": "a", "y": "b"}), ["x"])


if __name__ == "__main__":
    unittest.main()
