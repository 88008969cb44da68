import copy
import unittest

from samples import (all_standings, anything, many_rooms, one_going_on, parts, plain_leads, plain_shrunk, plainly_held,
                     ring_of, rooms_by, ropes_in_a_ring, ropes_in_a_row, row_of, sheaf, shrunk_walks, small_cases,
                     square, standing_of, tailed, tree, two_rings)
from tautropes.company import Company
from tautropes.errors import Apart, NoFolk, NoLead, NoStanding
from tautropes.house import House
from tautropes.leads import all_leads, is_lead, spread
from tautropes.papers import is_paper
from tautropes.rings import all_leaders, led_by, root
from tautropes.walks import behind, shrunk, turned

TEN = "mnopqrstuv"


def pairs_of_standings(house, company, step):
    told = all_standings(house, company)
    for place, one in enumerate(told[::step]):
        for other in told[place::2 * step + 1]:
            yield one, other


def led_along(house, company, one, most):
    """By plain goings: all (rooms, walks) to which rows lead, with the fewest goings, at most so many.

    Walks are those gone so far, shrunk, in the order of folk.
    """
    begin = rooms_by(company, one)
    first = (begin, tuple((room,) for room in begin))
    found = {first: 0}
    edge = [first]
    for many in range(1, most + 1):
        ahead = []
        for rooms, walks in edge:
            for who, other in one_going_on(house, company, rooms):
                place = company.folk().index(who)
                gone = plain_shrunk(walks[place] + (other[place],))
                now = (other, walks[:place] + (gone,) + walks[place + 1:])
                if now not in found:
                    found[now] = many
                    ahead.append(now)
        edge = ahead
    return found


def all_of_so_many_steps(house, company, one, other, most):
    """All dicts from folk to shrunk walks between their rooms of at most so many steps together."""
    found = [{}]
    for who in company.folk():
        walks = shrunk_walks(house, one[who], other[who], most)
        found = [{**ahead, who: walk} for ahead in found for walk in walks
                 if sum(len(gone) - 1 for gone in ahead.values()) + len(walk) - 1 <= most]
    return found


class IsLead(unittest.TestCase):
    def test_just_those_by_which_rows_lead_with_as_many_goings_as_steps(self):
        for house, company in small_cases():
            if len(company.folk()) > 3:
                continue
            for one in all_standings(house, company)[::13]:
                led = led_along(house, company, one, 5)
                for other in all_standings(house, company)[::5]:
                    for thing in all_of_so_many_steps(house, company, one, other, 5):
                        now = (rooms_by(company, other), tuple(thing[who] for who in company.folk()))
                        self.assertIs(is_lead(house, company, one, other, thing), now in led)
                        if now in led:
                            self.assertEqual(led[now], sum(len(walk) - 1 for walk in thing.values()))

    def test_what_rows_leave_behind(self):
        for house, company in small_cases():
            one = all_standings(house, company)[-1]
            for rooms, walks in led_along(house, company, one, 4):
                other = dict(zip(company.folk(), rooms))
                self.assertIs(is_lead(house, company, one, other, dict(zip(company.folk(), walks))), True)

    def test_a_row_of_rows_wound_round(self):
        company = ropes_in_a_row("xyz")
        one, other = standing_of("xyz", "aab"), standing_of("xyz", "aba")
        round_it = {"x": tuple("abcda"), "y": tuple("abcdab"), "z": tuple("bcda")}
        self.assertIs(is_lead(house=square(), company=company, one=one, other=other, thing=round_it), True)
        self.assertIs(is_lead(square(), company, one, other, {"x": ("a",), "y": ("a", "b"), "z": ("b", "a")}), True)
        self.assertIs(is_lead(square(), company, one, other, {**round_it, "z": ("b", "a")}), False)

    def test_with_one_thing_otherwise(self):
        company = ropes_in_a_row("xyz")
        one, other = standing_of("xyz", "aab"), standing_of("xyz", "bbb")
        right = {"x": ("a", "b"), "y": ("a", "b"), "z": ("b",)}
        self.assertIs(is_lead(square(), company, one, other, right), True)
        for who, wrong in (("x", ["a", "b"]), ("x", "ab"), ("x", ("a",)), ("x", ("b",)), ("x", ("b", "a")), ("x", ()),
                           ("x", ("a", "d", "c", "b")), ("x", ("a", "d", "a", "b")), ("x", ("a", "c", "b")),
                           ("x", ("a", "b", "a", "b")), ("x", ("a", "a", "b")), ("z", ("b", "b")), ("z", ("b", "a")),
                           ("z", ("b", "a", "b")), ("w", ("a",)), (None, ("a",))):
            self.assertIs(is_lead(square(), company, one, other, {**right, who: wrong}), False, (who, wrong))
        for who in right:
            fewer = {key: right[key] for key in right if key != who}
            for wrong in (fewer, {**fewer, "w": right[who]}, {**fewer, None: right[who]}):
                self.assertIs(is_lead(square(), company, one, other, wrong), False)
        self.assertIs(is_lead(square(), company, one, {**other, "x": "a"}, right), False)

    def test_of_anything(self):
        company = ropes_in_a_row("xyz")
        one, other = standing_of("xyz", "aab"), standing_of("xyz", "bbb")
        right = {"x": ("a", "b"), "y": ("a", "b"), "z": ("b",)}
        for thing in anything():
            self.assertIs(is_lead(square(), company, one, other, thing), False)
            self.assertIs(is_lead(square(), company, one, other, {**right, "x": thing}), thing == ("a", "b"))
            for wrong in ({"x": thing, "y": thing, "z": thing}, [right, thing], {**right, "z": thing},
                          {**right, "x": ("a", "b", thing)}, {**right, "x": (thing, "a", "b")}):
                self.assertIs(is_lead(square(), company, one, other, wrong), False)

    def test_held_ones_have_nothing(self):
        # the whole ring wound round the house by one turn fits each rope, but all are held
        company = ropes_in_a_ring("wxyz")
        one = standing_of("wxyz", "abcd")
        still = {who: (one[who],) for who in one}
        rolled = {who: tuple(("abcd" * 2)["abcd".index(one[who]):][:5]) for who in one}
        self.assertIs(is_lead(square(), company, one, one, still), True)
        self.assertIs(is_lead(square(), company, one, one, rolled), False)
        slackened = ropes_in_a_ring("vwxyz")
        one = standing_of("vwxyz", "aabcd")
        rolled = {who: tuple(("abcd" * 2)["abcd".index(one[who]):][:5]) for who in one}
        self.assertIs(is_lead(square(), slackened, one, one, rolled), True)
        posted = ropes_in_a_ring("vwxyz", ["x"])
        self.assertIs(is_lead(square(), posted, one, one, rolled), False)

    def test_long_walks(self):
        company = ropes_in_a_row("xy")
        one = standing_of("xy", "ab")
        lead = {"x": tuple("abcd" * 99 + "a"), "y": tuple("bcda" * 99 + "b")}
        self.assertIs(is_lead(square(), company, one, one, lead), True)
        self.assertIs(is_lead(square(), company, one, one, {**lead, "y": lead["y"][4:]}), False)


class Spread(unittest.TestCase):
    def test_small_companies(self):
        for house, company in small_cases():
            for one, other in pairs_of_standings(house, company, 7):
                for folk in company.folk():
                    for walk in shrunk_walks(house, one[folk], other[folk], 4):
                        right = plain_leads(house, company, one, other, folk, walk)
                        if right is None:
                            with self.assertRaises(NoLead):
                                spread(house, company, one, other, folk, walk)
                        else:
                            self.assertEqual(spread(house, company, one, other, folk, walk), right)

    def test_its_lot_alone_and_shrunk(self):
        company = Company(list("uvwxyz"), [("u", "v"), ("x", "y"), ("y", "z")], ["u"])
        one = standing_of("uvwxyz", "abcaab")
        other = standing_of("uvwxyz", "bcdbab")
        told = spread(house=square(), company=company, one=one, other=other, folk="y", walk=tuple("abababcda"))
        self.assertEqual(told, {"x": tuple("abcdab"), "y": tuple("abcda"), "z": tuple("bcdab")})
        self.assertEqual(spread(square(), company, one, other, "w", ("c", "b", "c", "d")), {"w": ("c", "d")})
        told.clear()
        self.assertEqual(len(spread(square(), company, one, other, "y", ("a",))), 3)

    def test_apart(self):
        company = ropes_in_a_row("xyz", ["z"])
        one, other = standing_of("xyz", "aab"), standing_of("xyz", "bbc")
        for walk in (("a",), ("b",), ("b", "a"), ("d", "a", "b"), ("a", "b", "c"), tuple("abcda")):
            with self.assertRaises(Apart) as caught:
                spread(square(), company, one, other, "x", walk)
            self.assertEqual(vars(caught.exception), {})
        # ahead of a held folk whose walk isn't nothing
        with self.assertRaises(NoLead):
            spread(square(), company, one, other, "x", ("a", "b"))

    def no_lead(self, names, *handed):
        kept = copy.deepcopy(handed[2:4])
        with self.assertRaises(NoLead) as caught:
            spread(*handed)
        self.assertIs(type(caught.exception.names), tuple)
        self.assertEqual(caught.exception.names, names)
        self.assertEqual(handed[2:4], kept)

    def test_the_first_rope_that_does_not_fit(self):
        # two rings with v in common; spare are w, z and x, y
        company = Company(list("uvwxyz"), ring_of("uvwxy") + [("u", "z"), ("w", "z")])
        one = standing_of("uvwxyz", "abcddb")
        for rooms, names in (("abcddd", ("w", "z")), ("abcbbb", ("x", "y")), ("abcbbd", ("w", "z"))):
            for folk in "uw":
                walk = (one[folk],)
                self.no_lead(names, square(), company, one, standing_of("uvwxyz", rooms), folk, walk)
        # where nothing is wound all walks fit, though they go round the house
        slack = standing_of("uvwxyz", "abcbbb")
        self.assertEqual(spread(square(), company, slack, slack, "u", tuple("abcda"))["w"], tuple("cdabc"))
        # a lot with another one ahead of it
        two = Company(list("abcvwxyz"), ring_of("abc") + ring_of("vwxyz"))
        one = {**standing_of("abc", "aaa"), **standing_of("vwxyz", "aabcd")}
        self.no_lead(("y", "z"), square(), two, one, {**one, **standing_of("vwxyz", "aaaaa")}, "w", ("a",))

    def test_then_the_first_held_folk(self):
        company = Company(list("vwxyz"), row_of("vwxyz"), ["x", "z"])
        one = standing_of("vwxyz", "aaaaa")
        self.no_lead(("x",), square(), company, one, standing_of("vwxyz", "bbbbb"), "v", ("a", "b"))
        self.no_lead(("z",), square(), company, one, standing_of("vwxyz", "bbaab"), "v", ("a", "b"))
        # a held one that stands again where it stood, but went round
        self.no_lead(("x",), square(), company, one, one, "v", tuple("abcda"))
        ring = ropes_in_a_ring("wxyz")
        self.no_lead(("w",), square(), ring, standing_of("wxyz", "abcd"), standing_of("wxyz", "bcda"), "y", ("c", "d"))

    def test_a_rope_goes_ahead_of_a_held_folk(self):
        company = ropes_in_a_ring("vwxyz", ["v"])
        one, other = standing_of("vwxyz", "aabcd"), standing_of("vwxyz", "bbbbb")
        self.no_lead(("y", "z"), square(), company, one, other, "w", ("a", "b"))
        self.no_lead(("v",), square(), company, other, {**other, "v": "a"}, "v", ("b", "a"))

    def test_one_held_of_another_lot_does_not_matter(self):
        company = Company(list("xyz"), [("x", "y")], ["z"])
        told = spread(square(), company, standing_of("xyz", "aaa"), standing_of("xyz", "bab"), "x", ("a", "b"))
        self.assertEqual(told, {"x": ("a", "b"), "y": ("a",)})


class AllLeads(unittest.TestCase):
    def check(self, house, company, one, other, folk, most):
        """What is told, held against all walks of at most so many steps."""
        kept = copy.deepcopy((one, other))
        told = all_leads(house, company, one, other, folk)
        self.assertIs(type(told), tuple)
        walks = shrunk_walks(house, one[folk], other[folk], most)
        right = [walk for walk in walks if plain_leads(house, company, one, other, folk, walk) is not None]
        if told[0] == "none":
            self.assertEqual(right, [])
            self.assertEqual(len(told), 2)
            self.assertIs(is_paper(house, company, one, other, told[1]), True)
        elif told[0] == "one":
            self.assertEqual(len(told), 2)
            self.assertEqual(right, [walk for walk in walks if walk == told[1]])
            self.assertIsNotNone(plain_leads(house, company, one, other, folk, told[1]))
        elif told[0] == "turns":
            self.assertEqual(right, [walk for walk in walks if walk in self.turns(told)])
        else:
            self.assertEqual(told, ("all",))
            self.assertEqual(right, walks)
        self.assertEqual((one, other), kept)
        return told

    def turns(self, told):
        """Many of the walks so many times the root, then the walk."""
        _, walk, turn = told
        self.assertEqual((shrunk(walk), shrunk(turn), root(turn)[1]), (walk, turn, 1))
        found = [walk]
        for way in (turn, turned(turn)):
            now = walk
            for _ in range(6):
                now = behind(way, now)
                found.append(now)
        return found

    def test_small_companies(self):
        told = set()
        for house, company in small_cases():
            for one, other in pairs_of_standings(house, company, 9):
                for folk in company.folk()[::2]:
                    told.add(self.check(house, company, one, other, folk, 6)[0])
        self.assertEqual(told, {"none", "one", "turns", "all"})

    def test_none_is_held_nothing_wound_and_the_rooms_hang_together(self):
        for house, company in small_cases():
            for one, other in pairs_of_standings(house, company, 9):
                for lot in company.lots():
                    folk = lot[0]
                    told = all_leads(house, company, one, other, folk)
                    free = not set(lot) & set(plainly_held(company, one))
                    hang = house.way(one[folk], other[folk]) is not None
                    if told == ("all",):
                        self.assertTrue(free and hang)
                    if company.ropes() in ([], [("x", "y")], [("y", "z")], [("x", "y"), ("y", "z")]):
                        self.assertEqual(told == ("all",), free and hang)

    def test_all_just_because_there_is_but_one_walk(self):
        company = ropes_in_a_row("xyz")
        told = self.check(tree(), company, standing_of("xyz", "abc"), standing_of("xyz", "def"), "y", 12)
        self.assertEqual(told, ("all",))
        self.assertEqual(all_leads(House(["a"], []), company, *[standing_of("xyz", "aaa")] * 2, "x"), ("all",))
        self.assertEqual(all_leads(house=parts(), company=Company(["x"], []), one={"x": "x"}, other={"x": "z"},
                                   folk="x"), ("all",))

    def test_one_by_a_held_folk(self):
        company = ropes_in_a_row("wxyz", ["z"])
        one, other = standing_of("wxyz", "cbab"), standing_of("wxyz", "adcb")
        self.assertEqual(self.check(square(), company, one, one, "w", 8), ("one", ("c",)))
        told = self.check(square(), company, one, {**other, "w": "d"}, "w", 8)
        self.assertEqual(told[0], "one")
        self.assertEqual(told[1], ("c", "d"))
        self.assertEqual(all_leads(square(), company, one, {**other, "w": "d"}, "z"), ("one", ("b",)))

    def test_turns(self):
        company = ropes_in_a_ring("vwxyz")
        one = standing_of("vwxyz", "aabcd")
        for other in (one, standing_of("vwxyz", "bcdda"), standing_of("vwxyz", "cdabb")):
            told = self.check(square(), company, one, other, "x", 9)
            self.assertEqual(told[0], "turns")
            self.assertIn(told[2], (tuple("bcdab"), tuple("badcb")))

    def test_turns_of_one_that_goes_round_more_than_once(self):
        company = ropes_in_a_ring("mnopqrstu")
        one = standing_of("mnopqrstu", "abcdabcdd")
        other = standing_of("mnopqrstu", "ccdabcdab")
        told = self.check(square(), company, one, other, "m", 11)
        self.assertEqual(told[0], "turns")
        self.assertEqual(told[2] in (tuple("abcda"), tuple("adcba")), True)

    def test_turns_with_a_stem(self):
        company = Company(list("uvwxyz"), ring_of("vwxyz") + [("u", "v")])
        one, other = standing_of("uvwxyz", "paabcd"), standing_of("uvwxyz", "bbcdda")
        told = self.check(tailed(), company, one, other, "u", 10)
        self.assertEqual(told[0], "turns")
        self.assertIn(told[2], (tuple("pabcdap"), tuple("padcbap")))

    def test_wound_otherwise(self):
        company = ropes_in_a_ring("vwxyz")
        one = standing_of("vwxyz", "aabcd")
        for rooms in ("aadcb", "aaaaa", "ababa"):
            told = self.check(square(), company, one, standing_of("vwxyz", rooms), "x", 8)
            self.assertEqual(told[0], "none")
            self.assertEqual(told[1][0], "rings")
            told = self.check(square(), company, standing_of("vwxyz", rooms), one, "x", 8)
            self.assertEqual(told[1][0], "rings")
        nine = ropes_in_a_ring("mnopqrstu")
        told = self.check(square(), nine, standing_of("mnopqrstu", "abcdabcdd"),
                          standing_of("mnopqrstu", "abcdddddd"), "m", 8)
        self.assertEqual(told[0], "none")

    def test_rooms_of_unlike_parts(self):
        company = Company(["x", "y", "z"], [("x", "y")])
        one, other = standing_of("xyz", "aba"), standing_of("xyz", "xyb")
        for folk in "xy":
            told = self.check(parts(), company, one, other, folk, 6)
            self.assertEqual(told[0], "none")
            self.assertEqual(told[1][0], "apart")
            self.assertIn(told[1][1], ("x", "y"))
        self.assertEqual(all_leads(parts(), company, one, other, "z"), ("all",))

    def test_none_by_held_ones(self):
        company = ropes_in_a_row("wxyz", ["w", "z"])
        one = standing_of("wxyz", "abcc")
        told = self.check(square(), company, one, {**one, "z": "b"}, "x", 8)
        self.assertEqual(told, ("none", ("held", "z", ())))
        told = self.check(square(), company, one, standing_of("wxyz", "addc"), "x", 8)
        self.assertEqual(told[1][0], "walk")
        self.assertEqual((told[1][2], told[1][3]), ((), ()))
        ring = ropes_in_a_ring("wxyz", ["w"])
        told = self.check(square(), ring, standing_of("wxyz", "abcd"), standing_of("wxyz", "adcb"), "x", 8)
        self.assertEqual(told[0], "none")

    def test_a_ring_of_a_held_one_that_reads_otherwise(self):
        # one post only, and a ring with slack: back to it the readings are unlike
        company = ropes_in_a_ring("vwxyz", ["v"])
        told = self.check(square(), company, standing_of("vwxyz", "aabcd"), standing_of("vwxyz", "aadcb"), "y", 8)
        self.assertEqual(told[0], "none")
        self.assertEqual(told[1][0], "walk")
        self.assertEqual((told[1][1][0], told[1][1][-1]), ("v", "v"))

    def test_told_anew(self):
        company = ropes_in_a_ring("vwxyz")
        one = standing_of("vwxyz", "aabcd")
        self.assertEqual(all_leads(square(), company, one, one, "x"), all_leads(square(), company, one, one, "x"))

    def test_big(self):
        house = many_rooms()
        folk = list("abcdefghijkl")
        company = Company(folk, ring_of(folk) + [(one, other) for one, other in zip(folk, folk[2:] + folk[:2])])
        rooms = house.rooms()
        one, other = {who: rooms[0] for who in folk}, {who: rooms[20] for who in folk}
        self.assertEqual(all_leads(house, company, one, other, "l"), ("all",))
        walk = house.way(rooms[0], rooms[20])
        self.assertEqual(spread(house, company, one, other, "l", walk), {who: walk for who in folk})


def two_lassos():
    """Two rings of five ropes, of m and of r, and one folk between these two."""
    return Company(list("mnopqrstuvw"), ring_of("mnopq") + ring_of("rstuv") + [("m", "w"), ("w", "r")])


def wound_twice(middle, second):
    """m in a and r in b, with w between; the first ring round by x and y, the second by two others."""
    return {**standing_of("mnopq", "aaxby"), **standing_of("rstuv", "bb" + second[0] + "a" + second[1]), "w": middle}


class SeveralRings(unittest.TestCase):
    def told(self, house, company, one, other, folk):
        told = all_leads(house, company, one, other, folk)
        if told[0] == "none":
            self.assertIs(is_paper(house, company, one, other, told[1]), True)
        elif told[0] == "one":
            self.assertIsNotNone(plain_leads(house, company, one, other, folk, told[1]))
        walks = shrunk_walks(house, one[folk], other[folk], 6)
        right = [walk for walk in walks if plain_leads(house, company, one, other, folk, walk) is not None]
        self.assertEqual([walk for walk in right if walk not in told], [] if told[0] != "turns" else right)
        return told

    def test_two_that_do_not_go_together_leave_one(self):
        one = wound_twice("x", "zx")
        self.assertEqual(self.told(sheaf(), two_lassos(), one, one, "m"), ("one", ("a",)))
        other = {**one, **standing_of("mnopqw", "yaxbyb")}
        self.assertEqual(self.told(sheaf(), two_lassos(), one, other, "r"), ("one", ("b",)))
        self.assertEqual(self.told(sheaf(), two_lassos(), one, other, "m"), ("one", ("a", "x", "b", "y")))

    def test_one_turn_behind(self):
        # the second ring hangs from the first by x in the one, by y in the other: so the first goes round once
        one, other = wound_twice("x", "zx"), wound_twice("y", "zx")
        self.assertEqual(self.told(sheaf(), two_lassos(), one, other, "m"), ("one", tuple("axbya")))
        self.assertEqual(self.told(sheaf(), two_lassos(), other, one, "m"), ("one", tuple("aybxa")))
        self.assertEqual(self.told(sheaf(), two_lassos(), one, other, "r"), ("one", ("b",)))

    def test_two_rings_each_of_one_name_but_not_together(self):
        # by x both rings go together in the one standing, by z they don't in the other
        one, other = wound_twice("x", "xy"), wound_twice("z", "xy")
        for folk in "mwr":
            told = self.told(sheaf(), two_lassos(), one, other, folk)
            self.assertEqual((told[0], told[1][0], len(told[1][1])), ("none", "rings", 2))
        # in neither do they go together, and no number of turns leads the second ring
        house = sheaf("uxyz")
        told = self.told(house, two_lassos(), other, {**other, "w": "u"}, "m")
        self.assertEqual((told[0], told[1][0], len(told[1][1])), ("none", "rings", 2))

    def test_three_rings_of_which_each_two_could(self):
        # two rings with ropes in common, and a third one that hangs from them by two ropes
        company = Company(list("abcdefghijklm"), three_ropes_of("abcdefg") + row_of("ahi") + ring_of("ijklm"))
        one = three_rings_by("x")
        told = self.told(sheaf(), company, one, three_rings_by("y"), "a")
        self.assertEqual((told[0], told[1][0], len(told[1][1])), ("none", "rings", 3))
        self.assertEqual(self.told(sheaf(), company, one, one, "a"), ("one", ("a",)))


def three_ropes_of(folk):
    """Between two pairs of folk three ways, by one folk each."""
    a, b, c, d, e, f, g = folk
    return [(a, b), (c, d), (a, e), (e, c), (b, f), (f, c), (a, g), (g, d)]


def three_rings_by(room):
    return {**standing_of("abcdefg", "aabbxyz"), "h": room, **standing_of("ijklm", "bbzax")}


class AllLeaders(unittest.TestCase):
    """Walks that lead closed walks together, by the walk that was taken."""

    def times(self, walk, many):
        now = walk[:1]
        for _ in range(abs(many)):
            now = behind(now, walk if many > 0 else turned(walk))
        return now

    def test_so_many_turns(self):
        house = two_rings()
        left, right = tuple("dabcd"), tuple("defgd")
        for stem in (("d",), tuple("dcbad"), tuple("defgdcbad")):
            turn = led_by(left, stem)
            other = behind(behind(turn, right), self.times(turn, 2))
            for many in range(-5, 6):
                walk = behind(self.times(turn, many), tuple("defg"))
                pairs = [(closed, led_by(closed, walk)) for closed in (self.times(turn, 3), other)]
                self.assertEqual(all_leaders(house, "d", "g", pairs), ("one", walk))
                self.assertEqual(all_leaders(house, "d", "g", pairs[::-1]), ("one", walk))
                told = all_leaders(house, "d", "g", pairs[:1])
                self.assertEqual(told[0], "turns")
                self.assertIn(told[2], (turn, turned(turn)))

    def test_three_of_which_each_two_are_led(self):
        left, right = tuple("dabcd"), tuple("defgd")
        pairs = [(left, left), (right, right), (behind(left, right), behind(right, left))]
        for first in range(3):
            order = pairs[first:] + pairs[:first]
            told = all_leaders(two_rings(), "d", "d", order)
            self.assertEqual((told[0], sorted(told[1])), ("none", [0, 1, 2]))
            self.assertEqual(all_leaders(two_rings(), "d", "d", order[:2])[0], "one")

    def test_numbers_told_are_of_those_that_bar(self):
        nothing, left, right = ("d",), tuple("dabcd"), tuple("defgd")
        twice = behind(left, left)
        pairs = [(nothing, nothing), (left, left), (twice, twice)]
        self.assertEqual(all_leaders(two_rings(), "d", "d", pairs)[0], "turns")
        self.assertEqual(all_leaders(two_rings(), "d", "d", pairs + [(right, led_by(right, tuple("defgdabcd")))])[0],
                         "one")
        self.assertEqual(all_leaders(two_rings(), "d", "d", pairs + [(right, turned(right))]), ("none", (3,)))
        both = behind(behind(right, left), turned(right))
        self.assertEqual(all_leaders(two_rings(), "d", "d", pairs + [(left, both)]), ("none", (1, 3)))
        self.assertEqual(all_leaders(two_rings(), "d", "d", pairs + [(both, left)]), ("none", (1, 3)))
        self.assertEqual(all_leaders(parts(), "a", "x", []), ("none", ()))
        self.assertEqual(all_leaders(parts(), "a", "b", []), ("all",))


class Refusals(unittest.TestCase):
    def test_each_and_which_goes_first(self):
        company = ropes_in_a_row("wxyz")
        right = standing_of("wxyz", "abcd")
        calls = (lambda one, other, rest: is_lead(square(), company, one, other, rest),
                 lambda one, other, rest: spread(square(), company, one, other, rest, rest),
                 lambda one, other, rest: all_leads(square(), company, one, other, rest))
        for thing in anything() + [standing_of("wxyz", "acab")]:
            for call in calls:
                for one, other, asked in ((thing, right, thing), (right, thing, thing), (thing, None, thing)):
                    with self.assertRaises(NoStanding) as caught:
                        call(one, other, None)
                    self.assertIs(caught.exception.asked, asked)
            if thing != "z":
                for call in calls[1:]:
                    with self.assertRaises(NoFolk) as caught:
                        call(right, right, thing)
                    self.assertIs(caught.exception.asked, thing)


if __name__ == "__main__":
    unittest.main()
