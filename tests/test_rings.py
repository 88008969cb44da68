import unittest

from samples import closed_walks, goes_straight_back, grid, houses, many_rooms, parts, square, tree, two_rings, walks_of
from tautropes.errors import Apart, NotClosed, Nothing
from tautropes.rings import core, go_together, leader, led_by, named, root
from tautropes.walks import behind, is_walk, shrunk, turned

OPEN = [("a", "b"), ("a", "b", "c", "d"), ("a", "b", "a", "b"), ("a", "b", "a", "d")]


def times(walk, number):
    """So many times a closed walk, below nought turned about."""
    once = shrunk(walk) if number > 0 else shrunk(turned(walk))
    told = once[:1]
    for _ in range(abs(number)):
        told = behind(told, once)
    return told


class Core(unittest.TestCase):
    def test_out_round_and_back(self):
        self.assertEqual(core(tuple("abcda")), (("a",), tuple("abcda")))
        self.assertEqual(core(tuple("adcba")), (("a",), tuple("adcba")))
        self.assertEqual(core(walk=tuple("gfedabcdefg")), (tuple("gfed"), tuple("dabcd")))

    def test_it_is_shrunk_first(self):
        self.assertEqual(core(tuple("ababcdcda")), (("a",), tuple("abcda")))

    def test_what_is_nothing(self):
        for walk in (("a",), tuple("aba"), tuple("abcdcba"), tuple("abcdadcba")):
            self.assertEqual(core(walk), (("a",), ("a",)))

    def test_each_closed_walk_is_its_stem_its_ring_and_back(self):
        for house in houses():
            for room in house.rooms():
                for walk in closed_walks(house, room, 8):
                    stem, ring = core(walk)
                    self.assertTrue(is_walk(house, stem) and is_walk(house, ring))
                    self.assertEqual(stem[-1], ring[0])
                    self.assertEqual(ring[0], ring[-1])
                    whole = stem + ring[1:] + turned(stem)[1:]
                    self.assertEqual(whole, shrunk(walk))
                    self.assertFalse(goes_straight_back(whole))
                    if len(ring) > 1:
                        self.assertNotEqual(ring[1], ring[-2])
                    else:
                        self.assertEqual((stem, ring), ((room,), (room,)))


class Named(unittest.TestCase):
    def test_the_least_of_its_rounds(self):
        for walk in ("abcda", "bcdab", "cdabc", "dabcd"):
            self.assertEqual(named(tuple(walk)), tuple("abcda"))
        for walk in ("adcba", "dcbad", "cbadc", "badcb"):
            self.assertEqual(named(walk=tuple(walk)), tuple("adcba"))

    def test_led_out_and_gone_several_times(self):
        self.assertEqual(named(tuple("gfedabcdefg")), tuple("abcda"))
        self.assertEqual(named(tuple("dcbadcbad")), tuple("adcbadcba"))

    def test_through_its_least_room_more_than_once(self):
        self.assertEqual(named(tuple("ebadebcfe")), tuple("adebcfeba"))
        self.assertEqual(named(tuple("dabcdefgdabcdgfed")),
                         min(tuple("abcdefgdabcdgfeda"), tuple("abcdgfedabcdefgda")))

    def test_of_nothing(self):
        self.assertEqual(named(("a",)), ())
        self.assertEqual(named(tuple("abcdcba")), ())

    def test_all_that_go_round_alike_and_no_others(self):
        for house in (square(), grid(), two_rings()):
            rings = [walk for room in house.rooms() for walk in closed_walks(house, room, 8)
                     if core(walk)[1] == walk and len(walk) > 1]
            for ring in rings:
                rounds = [ring[k:-1] + ring[:k + 1] for k in range(len(ring) - 1)]
                self.assertEqual(named(ring), min(rounds))


class Root(unittest.TestCase):
    def test_once_and_several_times(self):
        self.assertEqual(root(tuple("abcda")), (tuple("abcda"), 1))
        self.assertEqual(root(tuple("abcdabcda")), (tuple("abcda"), 2))
        self.assertEqual(root(walk=tuple("adcbadcbadcba")), (tuple("adcba"), 3))

    def test_the_stem_is_the_roots_too(self):
        walk = times(tuple("gfedabcdefg"), 4)
        self.assertEqual(root(walk), (tuple("gfedabcdefg"), 4))

    def test_two_rings_one_behind_the_other(self):
        eight = tuple("dabcdefgd")
        self.assertEqual(root(eight), (eight, 1))
        self.assertEqual(root(times(eight, 3)), (eight, 3))
        self.assertEqual(root(tuple("dabcdgfed")), (tuple("dabcdgfed"), 1))

    def test_nothing(self):
        for walk in (("a",), tuple("aba"), tuple("abcdadcba")):
            with self.assertRaises(Nothing) as caught:
                root(walk)
            self.assertEqual(vars(caught.exception), {})

    def test_as_great_as_can_be(self):
        for house in (square(), grid(), two_rings(), parts()):
            for room in house.rooms():
                closed = {shrunk(walk) for walk in closed_walks(house, room, 8)} - {(room,)}
                for walk in closed:
                    found = [(one, k) for one in closed for k in range(1, 9) if times(one, k) == walk]
                    most = max(k for _, k in found)
                    self.assertEqual([(one, k) for one, k in found if k == most], [root(walk)])

    def test_long(self):
        self.assertEqual(root(tuple("abcd" * 99 + "a")), (tuple("abcda"), 99))
        names = many_rooms().rooms()
        self.assertEqual(root(names * 9 + names[:1]), (names + names[:1], 9))


class LedBy(unittest.TestCase):
    def test_the_lead_turned_the_walk_the_lead(self):
        self.assertEqual(led_by(tuple("dabcd"), tuple("defg")), tuple("gfedabcdefg"))
        self.assertEqual(led_by(walk=tuple("abcda"), lead=tuple("ab")), tuple("bcdab"))
        self.assertEqual(led_by(tuple("abcda"), tuple("ad")), tuple("dabcd"))
        self.assertEqual(led_by(tuple("gfedabcdefg"), tuple("gfed")), tuple("dabcd"))

    def test_what_is_nothing_stays_nothing(self):
        self.assertEqual(led_by(("a",), tuple("abc")), ("c",))
        self.assertEqual(led_by(tuple("aba"), tuple("adad")), ("d",))

    def test_a_lead_that_goes_nowhere(self):
        self.assertEqual(led_by(tuple("ababcda"), ("a",)), tuple("abcda"))

    def test_refusals(self):
        for walk in OPEN:
            for lead in (("a", "b"), ("c",), ("b", "a")):
                with self.assertRaises(NotClosed) as caught:
                    led_by(walk, lead)
                self.assertEqual(vars(caught.exception), {})
        with self.assertRaises(Apart):
            led_by(tuple("abcda"), ("b", "a"))

    def test_names_stay(self):
        for walk in closed_walks(grid(), "b", 6):
            for lead in walks_of(grid(), "b", 3):
                self.assertEqual(named(led_by(walk, lead)), named(walk))


class Leader(unittest.TestCase):
    def leads(self, house, one, other):
        lead = leader(house, one, other)
        self.assertTrue(is_walk(house, lead))
        self.assertEqual(lead, shrunk(lead))
        self.assertEqual((lead[0], lead[-1]), (one[0], other[0]))
        self.assertEqual(led_by(one, lead), shrunk(other))

    def test_round_one_ring(self):
        self.leads(square(), tuple("abcda"), tuple("cdabc"))
        self.leads(two_rings(), tuple("gfedabcdefg"), tuple("bcdab"))
        self.leads(two_rings(), tuple("gfedabcdefg"), tuple("fgdabcdgf"))
        self.leads(two_rings(), tuple("dabcdefgd"), tuple("efgdabcde"))

    def test_the_other_way_about_is_another(self):
        self.assertIsNone(leader(square(), tuple("abcda"), tuple("adcba")))
        self.assertIsNone(leader(square(), tuple("abcda"), tuple("abcdabcda")))
        self.assertIsNone(leader(two_rings(), tuple("dabcd"), tuple("defgd")))
        self.assertIsNone(leader(two_rings(), tuple("dabcdefgd"), tuple("dabcdgfed")))

    def test_nothing_and_unlike_parts(self):
        self.leads(square(), ("a",), tuple("cdc"))
        self.leads(tree(), tuple("aba"), ("f",))
        self.leads(parts(), ("v",), ("v",))
        self.assertIsNone(leader(parts(), ("a",), ("x",)))
        self.assertIsNone(leader(parts(), tuple("xyx"), ("v",)))
        self.assertIsNone(leader(parts(), tuple("abcdea"), ("a",)))
        self.assertIsNone(leader(parts(), ("a",), tuple("abcdea")))
        self.assertIsNone(leader(parts(), tuple("abcdea"), ("x",)))

    def test_refusals(self):
        for walk in OPEN:
            for one, other in ((walk, ("a",)), (("a",), walk), (walk, walk), (tuple("abcda"), walk)):
                with self.assertRaises(NotClosed):
                    leader(square(), one, other)

    def test_just_where_they_have_one_name(self):
        for house in (grid(), two_rings(), tree()):
            closed = [walk for room in house.rooms() for walk in closed_walks(house, room, 4)]
            for one in closed:
                for other in closed:
                    if named(one) == named(other):
                        self.leads(house, one, other)
                    else:
                        self.assertIsNone(leader(house, one, other))

    def test_all_that_do_are_turns_of_the_root_then_the_told_one(self):
        house = grid()
        one, other = tuple("badeb"), tuple("cbadebc")
        told = leader(house=house, one=one, other=other)
        turns = {behind(times(root(one)[0], number), told) for number in range(-4, 5)}
        all_walks = {shrunk(walk) for walk in walks_of(house, "b", 9) + walks_of(house, "b", 8)}
        doing = {walk for walk in all_walks if walk[-1] == "c" and led_by(one, walk) == other}
        self.assertTrue(len(doing) > 2)
        self.assertTrue(doing <= turns)

    def test_as_long_as_walks_come(self):
        one = tuple("abcd" * 99 + "a")
        self.leads(square(), one, one[2:] + ("b", "c"))


class GoTogether(unittest.TestCase):
    def test_turns_of_one_root(self):
        ring = tuple("dabcd")
        for one in range(-3, 4):
            for other in range(-3, 4):
                self.assertIs(go_together(times(ring, one), times(ring, other)), True)

    def test_unlike_roots(self):
        self.assertIs(go_together(tuple("dabcd"), tuple("defgd")), False)
        self.assertIs(go_together(one=tuple("dabcd"), other=tuple("dgfed")), False)
        self.assertIs(go_together(tuple("dabcdefgd"), tuple("defgdabcd")), False)

    def test_nothing_goes_with_all(self):
        self.assertIs(go_together(("d",), tuple("dabcd")), True)
        self.assertIs(go_together(tuple("dabcd"), tuple("ded")), True)
        self.assertIs(go_together(("d",), ("d",)), True)

    def test_refusals(self):
        for one, other in ((("a", "b"), ("a",)), (("a",), ("a", "b")), (("a", "b"), ("c", "d")), (("b",), ("a", "b")),
                           (("a", "b"), ("b",))):
            with self.assertRaises(NotClosed):
                go_together(one, other)
        for one, other in ((("a",), ("b",)), (tuple("abcda"), tuple("bcdab"))):
            with self.assertRaises(Apart):
                go_together(one, other)

    def test_just_so_by_their_roots(self):
        for house in (grid(), two_rings()):
            closed = closed_walks(house, "d", 6)
            for one in closed:
                for other in closed:
                    if (shrunk(one) == ("d",)) or (shrunk(other) == ("d",)):
                        right = True
                    else:
                        right = root(other)[0] in (root(one)[0], turned(root(one)[0]))
                    self.assertIs(go_together(one, other), right)


class WhatIsNotClosed(unittest.TestCase):
    def test_goes_ahead_of_what_is_nothing(self):
        for walk in OPEN:
            for call in (core, named, root):
                with self.assertRaises(NotClosed) as caught:
                    call(walk)
                self.assertEqual(vars(caught.exception), {})


if __name__ == "__main__":
    unittest.main()
