import unittest

from samples import (all_standings, anything, one_going_on, reach, ring_of, ropes_in_a_ring, ropes_in_a_row, row_of,
                     sheaf, small_cases, square, standing_of, tailed)
from tautropes.company import Company
from tautropes.errors import NoFolk, NotClosed
from tautropes.pairs import tree_and_spare
from tautropes.tension import rope_rings, slack, tension


def band():
    """A lot with two spare ropes, one with one, one without, and a folk alone."""
    ropes = ring_of("abcd") + [("b", "d")] + ring_of("efg") + [("h", "i")]
    return Company(list("abcdefghij"), ropes, ["a", "e"])


class RopeRings(unittest.TestCase):
    def test_by_each_spare_rope_of_its_lot_rising(self):
        # ropes rising: ab ad bc bd cd, ef eg fg, hi; of the tree are ab ad bc, ef eg, hi
        self.assertEqual(rope_rings(company=band(), folk="a"), [tuple("abda"), tuple("abcda")])
        self.assertEqual(rope_rings(band(), "b"), [tuple("bdab"), tuple("bcdab")])
        self.assertEqual(rope_rings(band(), "c"), [tuple("cbdabc"), tuple("cdabc")])
        self.assertEqual(rope_rings(band(), "d"), [tuple("dabd"), tuple("dabcd")])
        self.assertEqual(rope_rings(band(), "g"), [tuple("gefg")])

    def test_along_the_tree_and_back_though_it_goes_straight_back(self):
        company = Company(list("abcdez"), ring_of("abcd") + [("d", "e"), ("e", "z")])
        self.assertEqual(rope_rings(company, "z"), [tuple("zedabcdez")])
        self.assertEqual(rope_rings(company, "b"), [tuple("bcdab")])

    def test_a_lot_without_a_spare_rope(self):
        self.assertEqual(rope_rings(band(), "h"), [])
        self.assertEqual(rope_rings(band(), "j"), [])
        self.assertEqual(rope_rings(ropes_in_a_row("xyz"), "y"), [])
        self.assertEqual(rope_rings(Company(["x"], []), "x"), [])

    def test_small_companies(self):
        for _, company in small_cases():
            tree, spare = tree_and_spare(company.folk(), company.ropes())
            for lot in company.lots():
                for folk in lot:
                    told = rope_rings(company, folk)
                    self.assertIs(type(told), list)
                    own = [rope for rope in spare if rope[0] in lot]
                    self.assertEqual(len(told), len(own))
                    for walk, rope in zip(told, own):
                        self.assertEqual((walk[0], walk[-1]), (folk, folk))
                        steps = list(zip(walk, walk[1:]))
                        self.assertEqual([step for step in steps if tuple(sorted(step)) not in tree], [rope])
                        place = steps.index(rope)
                        # along the tree there, and along the tree back, each without a folk twice
                        self.assertEqual(len(set(walk[:place + 1])), place + 1)
                        self.assertEqual(len(set(walk[place + 1:])), len(walk) - place - 1)

    def test_no_folk(self):
        for thing in anything():
            if thing not in ("a", "b"):
                with self.assertRaises(NoFolk) as caught:
                    rope_rings(band(), thing)
                self.assertEqual(caught.exception.asked, thing)

    def test_told_anew(self):
        company = band()
        rope_rings(company, "a").clear()
        self.assertEqual(len(rope_rings(company, "a")), 2)
        self.assertEqual(company, band())


class TensionAndSlack(unittest.TestCase):
    def both(self, standing, walk):
        kept = dict(standing)
        told = tension(standing, walk), slack(standing, walk)
        self.assertEqual(standing, kept)
        return told

    def test_round_the_house(self):
        self.assertEqual(self.both(standing_of("wxyz", "abcd"), tuple("wxyzw")), (tuple("abcda"), 0))
        self.assertEqual(self.both(standing_of("wxyz", "cdab"), tuple("wxyzw")), (tuple("abcda"), 0))
        self.assertEqual(self.both(standing_of("vwxyz", "ccdab"), tuple("vwxyzv")), (tuple("abcda"), 1))

    def test_the_other_way_about(self):
        self.assertEqual(self.both(standing_of("vwxyz", "ddcba"), tuple("vwxyzv")), (tuple("adcba"), 1))
        self.assertEqual(self.both(standing_of("wxyz", "abcd"), tuple("wzyxw")), (tuple("adcba"), 0))

    def test_once_and_more(self):
        folk = "mnopqrstu"
        standing = standing_of(folk, "abcdabcdd")
        self.assertEqual(self.both(standing, tuple(folk + "m")), (tuple("abcdabcda"), 1))
        self.assertEqual(self.both(standing, tuple(folk + folk + "m")), (tuple("abcdabcd" * 2 + "a"), 2))

    def test_nothing(self):
        self.assertEqual(self.both(standing_of("wxyz", "abcb"), tuple("wxyzw")), ((), 4))
        self.assertEqual(self.both(standing_of("wxyz", "aaaa"), tuple("wxyzw")), ((), 4))
        self.assertEqual(self.both(standing_of("wxyz", "abcd"), ("w",)), ((), 0))
        self.assertEqual(self.both(standing_of("wxyz", "abcd"), tuple("wxw")), ((), 2))
        self.assertEqual(self.both(standing_of("wxyz", "abcd"), tuple("wxyzwzyxw")), ((), 8))

    def test_with_a_stem(self):
        company = Company(list("uvwxyz"), ring_of("wxyz") + [("u", "v"), ("v", "w")])
        ring = rope_rings(company, "u")[0]
        self.assertEqual(ring, tuple("uvwxyzwvu"))
        self.assertEqual(self.both(standing_of("uvwxyz", "qpabcd"), ring), (tuple("abcda"), 4))

    def test_the_ring_of_the_reading_counts_not_the_reading(self):
        # the reading goes from p to a, round, and back to p
        standing = standing_of("uvwxyz", "pabcda")
        self.assertEqual(self.both(standing, tuple("uvwxyzu")), (tuple("abcda"), 2))

    def test_by_name(self):
        standing = standing_of("wxyz", "abcd")
        self.assertEqual(tension(standing=standing, rope_walk=tuple("wxyzw")), tuple("abcda"))
        self.assertEqual(slack(standing=standing, rope_walk=tuple("wxyzw")), 0)
        self.assertIs(type(slack(standing, ("w",))), int)

    def test_not_closed(self):
        # closed it is by its folk, not by the rooms that it reads
        for standing in (standing_of("wxyz", "abcd"), standing_of("wxyz", "aaaa")):
            for walk in (("w", "x"), tuple("wxyz"), tuple("wxyzwx")):
                for call in (tension, slack):
                    with self.assertRaises(NotClosed) as caught:
                        call(standing, walk)
                    self.assertEqual(vars(caught.exception), {})

    def test_neither_is_changed_by_any_going(self):
        cases = [(square(), ropes_in_a_ring("vwxyz")), (sheaf(), ropes_in_a_ring("vwxyz")),
                 (tailed(), ropes_in_a_ring("vwxyz"))]
        for house, company in cases:
            ring = rope_rings(company, "v")[0]
            for standing in all_standings(house, company)[::3]:
                stays = self.both(standing, ring)
                self.assertTrue(stays[1] >= 0)
                rooms = tuple(standing[who] for who in company.folk())
                for _, other in one_going_on(house, company, rooms):
                    self.assertEqual(self.both(dict(zip(company.folk(), other)), ring), stays)

    def test_the_same_in_all_that_can_be_come_to(self):
        company = Company(list("uvwxyz"), ring_of("uvwx") + row_of("xyz"))
        ring = rope_rings(company, "z")[0]
        standing = standing_of("uvwxyz", "abcdda")
        for rooms in reach(square(), company, standing):
            self.assertEqual(self.both(dict(zip(company.folk(), rooms)), ring), (tuple("abcda"), 4))


if __name__ == "__main__":
    unittest.main()
