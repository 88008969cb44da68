import copy
import random
import unittest

from samples import (all_standings, anything, grid, no_names, parts, plain_shrunk, reach, ring_of, rooms_by,
                     ropes_in_a_ring, ropes_in_a_row, small_cases, square, standing_of, tailed, tree, two_rings)
from tautropes.changed import cut, freed, posted, tied
from tautropes.company import Company
from tautropes.errors import (NoDoor, NoFolk, NoMoment, NoMore, NoPost, NoRoom, NoRope, NoStanding, NotGone, NotNear)
from tautropes.hall import Hall
from tautropes.house import House
from tautropes.standings import gone, is_standing
from tautropes.wants import wants
from tautropes.ways import fewest, is_led


def row_hall(posts=()):
    return Hall(square(), ropes_in_a_row("xyz", posts), {"x": "a", "y": "a", "z": "b"})


def do(hall, act):
    """Ask for an act by its method."""
    return getattr(hall, act[0])(*act[1:])


def plain_why_not(house, company, standing, act):
    """The refusal of an act of right names, by plain words: its class and fields, or None."""
    word, names = act[0], act[1:]
    if word == "go":
        who, room = names
        near = [standing[other] for other in company.roped(who)]
        if who in company.posts():
            return NotGone, {"number": 0, "why": "post"}
        if room not in house.beside(standing[who]):
            return NotGone, {"number": 0, "why": "door"}
        if any(other != room and other not in house.beside(room) for other in near):
            return NotGone, {"number": 0, "why": "rope"}
    if word in ("tie", "cut"):
        there = names[1] in company.roped(names[0])
        if names[0] == names[1] or there == (word == "tie"):
            return NoRope, {"asked": names}
        rooms = standing[names[0]], standing[names[1]]
        if word == "tie" and rooms[0] != rooms[1] and rooms[0] not in house.beside(rooms[1]):
            return NotNear, {"one": names[0], "other": names[1]}
    if word in ("post", "free") and (names[0] in company.posts()) == (word == "post"):
        return NoPost, {"asked": names[0]}
    return None


def plain_behind(house, company, standing, act):
    """The company and standing behind an act that can be done."""
    word, names = act[0], act[1:]
    if word == "go":
        return company, gone(house, company, standing, [names])
    change = {"tie": tied, "cut": cut, "post": posted, "free": freed}[word]
    return change(company, *names), standing


class Holding(unittest.TestCase):
    def refused(self, error, fields, call):
        with self.assertRaises(error) as caught:
            call()
        self.assertIs(type(caught.exception), error)
        self.assertEqual(vars(caught.exception), fields)

    def told(self, hall):
        """All that a hall tells of its history."""
        many = len(hall.acts())
        return (hall.house(), hall.acts(), [hall.company_at(k) for k in range(many + 1)],
                [hall.standing_at(k) for k in range(many + 1)], hall.company_at(), hall.standing_at(), hall.home(),
                hall.often(), [hall.trail(who) for who in hall.company_at().folk()])


class Beginning(Holding):
    def test_what_it_tells_at_first(self):
        company, standing = ropes_in_a_row("xyz", ["z"]), standing_of("xyz", "aab")
        hall = Hall(house=square(), company=company, standing=standing)
        self.assertEqual((hall.house(), hall.company_at(), hall.standing_at()), (square(), company, standing))
        self.assertEqual((hall.company_at(0), hall.standing_at(0)), (company, standing))
        self.assertEqual((hall.acts(), hall.home(), hall.often()), ([], 0, {"x": 0, "y": 0, "z": 0}))
        self.assertEqual([hall.trail(who) for who in "xyz"], [("a",), ("a",), ("b",)])

    def test_what_is_no_standing(self):
        for thing in anything() + [standing_of("xyz", "abd"), standing_of("xy", "aa"), standing_of("wxyz", "aaaa")]:
            self.refused(NoStanding, {"asked": thing}, lambda: Hall(square(), ropes_in_a_row("xyz"), thing))

    def test_what_is_handed_in_is_kept_as_a_copy(self):
        standing = standing_of("xyz", "aab")
        hall = Hall(square(), ropes_in_a_row("xyz"), standing)
        hall.go("x", "d")
        self.assertEqual(standing, standing_of("xyz", "aab"))
        standing["x"] = "c"
        standing["q"] = "a"
        self.assertEqual(hall.standing_at(0), standing_of("xyz", "aab"))
        self.assertEqual(hall.standing_at(), standing_of("xyz", "dab"))
        self.assertEqual(hall.trail("x"), ("a", "d"))
        self.assertEqual(hall.home(), 1)

    def test_methods_stand_in_the_class_itself(self):
        for name in ("__init__ __eq__ go tie cut post free house company_at standing_at acts back on can home wants "
                     "often trail").split():
            self.assertIn(name, vars(Hall))


class Acts(Holding):
    def test_each(self):
        hall = row_hall(["z"])
        self.assertIsNone(hall.go(folk="x", room="d"))
        self.assertIsNone(hall.post(folk="x"))
        self.assertIsNone(hall.free(folk="z"))
        self.assertIsNone(hall.cut(one="z", other="y"))
        self.assertIsNone(hall.go("z", "c"))
        self.assertIsNone(hall.tie(one="z", other="x"))
        acts = [("go", "x", "d"), ("post", "x"), ("free", "z"), ("cut", "z", "y"), ("go", "z", "c"), ("tie", "z", "x")]
        self.assertEqual(hall.acts(), acts)
        self.assertTrue(all(type(act) is tuple for act in hall.acts()))
        self.assertEqual(hall.company_at(), Company(list("xyz"), [("x", "y"), ("x", "z")], ["x"]))
        self.assertEqual(hall.standing_at(), standing_of("xyz", "dac"))
        self.assertEqual(hall.often(), {"x": 1, "y": 0, "z": 1})

    def test_refused_goings(self):
        company = ropes_in_a_row("xyz", ["z"])
        hall = Hall(square(), company, {"x": "a", "y": "a", "z": "b"})
        for folk, room, why in (("z", "c", "post"), ("z", "b", "post"), ("x", "c", "door"), ("x", "a", "door"),
                                ("y", "d", "rope"), ("y", "c", "door"), ("q", "a", "form"), ("x", "q", "form"),
                                ("a", "x", "form"), ("z", "z", "form")):
            self.refused(NotGone, {"number": 0, "why": why}, lambda: hall.go(folk, room))
        for thing in anything():
            for folk, room in ((thing, "b"), (thing, thing)):
                if thing not in ("z",):
                    self.refused(NotGone, {"number": 0, "why": "form"}, lambda: hall.go(folk, room))
            if thing not in ("a", "b"):
                self.refused(NotGone, {"number": 0, "why": "form"}, lambda: hall.go("x", thing))
        self.assertEqual(hall, Hall(square(), company, {"x": "a", "y": "a", "z": "b"}))

    def test_refused_ropes(self):
        hall = row_hall()
        for call in (hall.tie, hall.cut):
            for thing in no_names() + ["q"]:
                for handed in ((thing, "x"), ("x", thing), (thing, thing)):
                    self.refused(NoRope, {"asked": handed}, lambda: call(*handed))
            self.refused(NoRope, {"asked": ("x", "x")}, lambda: call("x", "x"))
        self.refused(NoRope, {"asked": ("y", "x")}, lambda: hall.tie("y", "x"))
        self.refused(NoRope, {"asked": ("z", "x")}, lambda: hall.cut("z", "x"))
        self.assertEqual(hall, row_hall())

    def test_tying_two_that_are_not_near(self):
        hall = Hall(parts(), Company(list("wxyz"), [("w", "x")]), standing_of("wxyz", "bacx"))
        self.refused(NotNear, {"one": "x", "other": "y"}, lambda: hall.tie("x", "y"))
        self.refused(NotNear, {"one": "y", "other": "x"}, lambda: hall.tie("y", "x"))
        self.refused(NotNear, {"one": "z", "other": "w"}, lambda: hall.tie("z", "w"))
        # a rope that is there, and one of what is no folk, go ahead
        self.refused(NoRope, {"asked": ("x", "w")}, lambda: hall.tie("x", "w"))
        self.refused(NoRope, {"asked": ("z", None)}, lambda: hall.tie("z", None))
        self.assertEqual(hall.acts(), [])
        hall.tie("y", "w")
        self.refused(NotGone, {"number": 0, "why": "rope"}, lambda: hall.go("y", "d"))
        hall.cut("w", "y")
        hall.go("y", "d")
        self.refused(NotNear, {"one": "y", "other": "w"}, lambda: hall.tie("y", "w"))

    def test_tied_in_one_room(self):
        hall = Hall(House(["a"], []), Company(["x", "y"], []), {"x": "a", "y": "a"})
        hall.tie("y", "x")
        self.assertEqual(hall.company_at().ropes(), [("x", "y")])

    def test_refused_posts(self):
        hall = row_hall(["z"])
        for thing in no_names() + ["q"]:
            self.refused(NoPost, {"asked": thing}, lambda: hall.post(thing))
            self.refused(NoPost, {"asked": thing}, lambda: hall.free(thing))
        self.refused(NoPost, {"asked": "z"}, lambda: hall.post("z"))
        self.refused(NoPost, {"asked": "x"}, lambda: hall.free("x"))
        self.assertEqual(hall, row_hall(["z"]))


class BackAndOn(Holding):
    def test_back_and_on(self):
        hall = row_hall()
        first = self.told(hall)
        hall.go("x", "d")
        second = self.told(hall)
        hall.cut("y", "z")
        third = self.told(hall)
        self.assertEqual(hall.back(), ("cut", "y", "z"))
        self.assertEqual(self.told(hall), second)
        self.assertEqual(hall.back(), ("go", "x", "d"))
        self.assertEqual(self.told(hall), first)
        self.refused(NoMore, {"word": "back"}, hall.back)
        self.assertEqual(hall.on(), ("go", "x", "d"))
        self.assertEqual(self.told(hall), second)
        self.assertEqual(hall.on(), ("cut", "y", "z"))
        self.assertEqual(self.told(hall), third)
        self.refused(NoMore, {"word": "on"}, hall.on)
        self.assertEqual(self.told(hall), third)

    def test_nothing_done_yet(self):
        hall = row_hall()
        self.refused(NoMore, {"word": "back"}, hall.back)
        self.refused(NoMore, {"word": "on"}, hall.on)
        self.assertEqual(hall, row_hall())

    def test_a_refused_act_lets_nothing_go(self):
        hall = row_hall()
        hall.go("x", "d")
        hall.post("y")
        hall.back()
        hall.back()
        for call in (lambda: hall.go("x", "c"), lambda: hall.tie("x", "y"), lambda: hall.cut("x", "z"),
                     lambda: hall.post("q"), lambda: hall.free("x"), lambda: hall.wants("x", "c"),
                     lambda: hall.can(None), lambda: hall.standing_at(1), hall.back):
            with self.assertRaises((NotGone, NoRope, NoPost, NoDoor, NoStanding, NoMoment, NoMore)):
                call()
        self.assertEqual(hall.on(), ("go", "x", "d"))
        self.refused(NotGone, {"number": 0, "why": "door"}, lambda: hall.go("x", "b"))
        self.assertEqual(hall.on(), ("post", "y"))

    def test_a_done_act_lets_go_what_was_taken_back(self):
        for act in (("go", "x", "b"), ("tie", "x", "z"), ("cut", "x", "y"), ("post", "z"), ("go", "x", "d")):
            hall = row_hall()
            hall.go("x", "d")
            hall.post("y")
            hall.back()
            hall.back()
            do(hall, act)
            self.refused(NoMore, {"word": "on"}, hall.on)
            self.assertEqual(hall.acts(), [act])
            self.assertEqual(hall.back(), act)
            self.assertEqual(hall.on(), act)
            self.refused(NoMore, {"word": "on"}, hall.on)

    def test_what_was_taken_back_is_in_nothing(self):
        hall = row_hall()
        hall.go("x", "d")
        hall.back()
        self.assertEqual(hall.often(), {"x": 0, "y": 0, "z": 0})
        self.assertEqual(hall.trail("x"), ("a",))
        self.refused(NoMoment, {"asked": 1}, lambda: hall.company_at(1))
        self.assertEqual(hall, row_hall())


class Moments(Holding):
    def hall(self):
        hall = row_hall()
        for act in (("go", "x", "d"), ("cut", "y", "z"), ("go", "z", "c"), ("post", "z")):
            do(hall, act)
        return hall

    def test_each(self):
        hall = self.hall()
        rooms = [rooms_by(hall.company_at(), hall.standing_at(k)) for k in range(5)]
        self.assertEqual(rooms, [tuple("aab"), tuple("dab"), tuple("dab"), tuple("dac"), tuple("dac")])
        self.assertEqual([len(hall.company_at(k).ropes()) for k in range(5)], [2, 2, 1, 1, 1])
        self.assertEqual([hall.company_at(moment=k).posts() for k in range(5)], [()] * 4 + [("z",)])
        self.assertEqual(hall.standing_at(moment=4), hall.standing_at())
        self.assertEqual(hall.standing_at(None), hall.standing_at())
        self.assertEqual(hall.company_at(None), hall.company_at(4))

    def test_what_is_none(self):
        hall = self.hall()
        for thing in anything() + [5, 6, -1, -5, True, False, 10 ** 30 - 1, "4", (4,), [4], {4: 4}]:
            if thing is None or (type(thing) is int and 0 <= thing <= 4):
                continue
            self.refused(NoMoment, {"asked": thing}, lambda: hall.company_at(thing))
            self.refused(NoMoment, {"asked": thing}, lambda: hall.standing_at(thing))
        hall.back()
        self.refused(NoMoment, {"asked": 4}, lambda: hall.standing_at(4))
        hall.on()
        self.assertEqual(hall.standing_at(4), hall.standing_at())


class OfNow(Holding):
    def test_home(self):
        hall = row_hall()
        hall.go("x", "d")
        self.assertEqual(hall.home(), 1)
        hall.go("z", "a")
        hall.go("y", "d")
        hall.go("x", "c")
        hall.go("z", "d")
        self.assertEqual(hall.home(), fewest(square(), ropes_in_a_row("xyz"), hall.standing_at(), hall.standing_at(0)))
        self.assertEqual(hall.home(), 5)
        # by a post that stands elsewhere it can't
        hall.post("y")
        self.assertIsNone(hall.home())
        hall.free("y")
        self.assertEqual(hall.home(), 5)

    def test_home_where_the_first_is_no_standing_any_more(self):
        hall = Hall(square(), Company(["x", "y"], []), {"x": "a", "y": "c"})
        hall.go("x", "b")
        self.assertEqual(hall.home(), 1)
        hall.tie("x", "y")
        self.assertIsNone(hall.home())
        self.refused(NoStanding, {"asked": {"x": "a", "y": "c"}}, lambda: hall.can({"x": "a", "y": "c"}))
        hall.back()
        self.assertEqual(hall.home(), 1)
        hall.on()
        hall.cut("y", "x")
        self.assertEqual(hall.home(), 1)

    def test_home_where_a_ring_was_tied_round(self):
        hall = Hall(square(), ropes_in_a_row("wxyz"), standing_of("wxyz", "aaaa"))
        for act in (("cut", "y", "z"), ("go", "z", "d"), ("go", "x", "b"), ("go", "y", "b"), ("go", "y", "c"),
                    ("tie", "y", "z"), ("tie", "w", "z")):
            do(hall, act)
        self.assertIsNone(hall.home())
        hall.cut("w", "z")
        # z came by one door, but is now roped to those who went the other way about
        self.assertEqual(hall.home(), 1 + 2 + 3)
        hall.back()
        self.assertIsNone(hall.home())
        self.assertIs(hall.can(standing_of("wxyz", "aaaa")), False)
        self.assertIs(hall.can(hall.standing_at()), True)

    def test_can(self):
        hall = row_hall(["z"])
        self.assertIs(hall.can(other={"x": "c", "y": "c", "z": "b"}), True)
        self.assertIs(hall.can({"x": "a", "y": "a", "z": "a"}), False)
        for thing in anything() + [standing_of("xyz", "acc"), standing_of("xy", "aa"), standing_of("wxyz", "aaaa")]:
            self.refused(NoStanding, {"asked": thing}, lambda: hall.can(thing))
        hall.free("z")
        self.assertIs(hall.can({"x": "a", "y": "a", "z": "a"}), True)
        self.assertEqual(hall.acts(), [("free", "z")])

    def test_wants(self):
        hall = row_hall(["z"])
        self.assertEqual(hall.wants(folk="x", room="d"), ("goes", [("x", "d")]))
        self.assertEqual(hall.wants("y", "d"), ("barred", (("y", "z"),)))
        self.assertEqual(hall.wants("z", "c"), ("barred", (("z",),)))
        hall.free("z")
        self.assertEqual(hall.wants("y", "d"), ("goes", [("z", "a"), ("y", "d")]))
        hall.cut("y", "z")
        told = hall.wants("y", "d")
        self.assertEqual(told, ("goes", [("y", "d")]))
        told[1].clear()
        self.assertEqual(hall.wants("y", "d"), ("goes", [("y", "d")]))

    def test_wants_refused(self):
        hall = row_hall()
        for thing in no_names() + ["q"]:
            self.refused(NoFolk, {"asked": thing}, lambda: hall.wants(thing, None))
            self.refused(NoRoom, {"asked": thing}, lambda: hall.wants("x", thing))
        for room in "ac":
            self.refused(NoDoor, {"asked": room}, lambda: hall.wants("x", room))

    def test_often_and_trail(self):
        hall = Hall(two_rings(), Company(["x", "y"], []), {"x": "a", "y": "g"})
        for room in "bcdcdefgdefgdc":
            hall.go("x", room)
        self.assertEqual(hall.often(), {"x": 14, "y": 0})
        self.assertEqual(hall.trail(folk="x"), plain_shrunk("abcdcdefgdefgdc"))
        self.assertEqual(hall.trail("x"), tuple("abcdefgdefgdc"))
        self.assertIs(type(hall.trail("x")), tuple)
        self.assertEqual(hall.trail("y"), ("g",))
        for room in "dgfedgfedcba":
            hall.go("x", room)
        self.assertEqual(hall.trail("x"), ("a",))
        self.assertEqual(hall.often(), {"x": 26, "y": 0})
        for thing in no_names() + ["q"]:
            self.refused(NoFolk, {"asked": thing}, lambda: hall.trail(thing))

    def test_a_folk_called_as_a_room(self):
        hall = Hall(House(["x", "y"], [("x", "y")]), Company(["x", "y"], [("x", "y")]), {"x": "x", "y": "x"})
        hall.go("y", "y")
        hall.go("x", "y")
        self.assertEqual((hall.trail("x"), hall.trail("y"), hall.often()), (("x", "y"), ("x", "y"), {"x": 1, "y": 1}))


def random_act(chance, house, company):
    """An act of right names, often one that is refused."""
    word = chance.choice(["go"] * 8 + ["tie", "cut", "post", "free", "free"])
    folk, rooms = company.folk(), house.rooms()
    if word == "go":
        return word, chance.choice(folk), chance.choice(rooms)
    if word in ("tie", "cut"):
        return word, chance.choice(folk), chance.choice(folk)
    return word, chance.choice(folk)


class Histories(Holding):
    def test_long_ones_held_against_plain_lists(self):
        chance = random.Random(20)
        done = refused = 0
        for house, company in small_cases() + [(grid(), ropes_in_a_row("vwxyz", ["v"])),
                                               (two_rings(), Company(list("uvwxyz"), ring_of("wxyz")))]:
            standing = chance.choice(all_standings(house, company))
            hall = Hall(house, company, standing)
            moments, acts, undone = [(company, standing)], [], []
            for _ in range(150):
                act = random_act(chance, house, company)
                word = chance.choice(["act"] * 5 + ["back", "on"])
                if word == "back":
                    if acts:
                        undone.append((acts.pop(), moments.pop()))
                        self.assertEqual(hall.back(), undone[-1][0])
                    else:
                        self.refused(NoMore, {"word": "back"}, hall.back)
                elif word == "on":
                    if undone:
                        act, moment = undone.pop()
                        acts.append(act)
                        moments.append(moment)
                        self.assertEqual(hall.on(), act)
                    else:
                        self.refused(NoMore, {"word": "on"}, hall.on)
                else:
                    wrong = plain_why_not(house, *moments[-1], act)
                    if wrong is None:
                        self.assertIsNone(do(hall, act))
                        moments.append(plain_behind(house, *moments[-1], act))
                        acts.append(act)
                        undone = []
                        done += 1
                    else:
                        self.refused(wrong[0], wrong[1], lambda: do(hall, act))
                        refused += 1
                self.hold(hall, house, moments, acts)
        self.assertTrue(done > 300 and refused > 300)

    def hold(self, hall, house, moments, acts):
        """Hold all that a hall tells against the plain lists, and against what the functions tell of now."""
        company, standing = moments[-1]
        self.assertEqual(hall.house(), house)
        self.assertEqual(hall.acts(), acts)
        self.assertEqual((hall.company_at(), hall.standing_at()), (company, standing))
        half = len(acts) // 2
        self.assertEqual((hall.company_at(half), hall.standing_at(half)), moments[half])
        first = moments[0][1]
        if is_standing(house, company, first) and is_led(house, company, standing, first):
            self.assertEqual(hall.home(), fewest(house, company, standing, first))
        else:
            self.assertIsNone(hall.home())
        rooms = {who: [first[who]] + [act[2] for act in acts if act[:2] == ("go", who)] for who in company.folk()}
        self.assertEqual(hall.often(), {who: len(rooms[who]) - 1 for who in rooms})
        for who in company.folk():
            self.assertEqual(hall.trail(who), plain_shrunk(rooms[who]))
            self.assertEqual(hall.trail(who)[-1], standing[who])
            for room in house.beside(standing[who])[:1]:
                self.assertEqual(hall.wants(who, room), wants(house, company, standing, who, room))
        self.assertIs(hall.can(standing), True)
        if is_standing(house, company, first):
            self.assertIs(hall.can(first), is_led(house, company, standing, first))

    def test_home_and_can_held_against_a_plain_search(self):
        chance = random.Random(7)
        for house, company in small_cases()[2:11]:
            standing = chance.choice(all_standings(house, company))
            hall = Hall(house, company, standing)
            for _ in range(40):
                act = random_act(chance, house, company)
                if plain_why_not(house, hall.company_at(), hall.standing_at(), act) is None:
                    do(hall, act)
            found = reach(house, hall.company_at(), hall.standing_at())
            self.assertEqual(hall.home(), found.get(rooms_by(company, standing)))
            for other in all_standings(house, hall.company_at())[::17]:
                self.assertIs(hall.can(other), rooms_by(company, other) in found)

    def test_very_long(self):
        hall = Hall(tree(), Company(["x"], []), {"x": "a"})
        for _ in range(1000):
            hall.go("x", "b")
            hall.go("x", "a")
        self.assertEqual(hall.often(), {"x": 2000})
        self.assertEqual(hall.trail("x"), ("a",))
        for _ in range(2000):
            hall.back()
        self.assertEqual(hall, Hall(tree(), Company(["x"], []), {"x": "a"}))
        for _ in range(2000):
            hall.on()
        self.assertEqual(hall.standing_at(1999), {"x": "b"})


class Equality(Holding):
    def test_where_houses_first_companies_first_standings_and_acts_are(self):
        one, other = row_hall(), row_hall()
        self.assertTrue(one == other)
        self.assertFalse(one != other)
        one.go("x", "d")
        self.assertFalse(one == other)
        self.assertTrue(one != other)
        other.go("x", "d")
        self.assertTrue(one == other)
        for hall in (one, other):
            hall.cut("x", "y")
            hall.post("y")
        self.assertTrue(one == other)
        one.free("y")
        self.assertFalse(one == other)

    def test_what_was_taken_back_does_not_count(self):
        one, other = row_hall(), row_hall()
        one.post("x")
        self.assertFalse(one == other)
        one.back()
        self.assertTrue(one == other)
        self.assertTrue(other == one)

    def test_like_ends_of_unlike_histories(self):
        one, other = row_hall(), row_hall()
        one.go("x", "d")
        one.go("x", "a")
        self.assertEqual(one.standing_at(), other.standing_at())
        self.assertFalse(one == other)
        # a rope tied the other way about is another act
        one, other = row_hall(), row_hall()
        one.tie("x", "z")
        other.tie("z", "x")
        self.assertEqual(one.company_at(), other.company_at())
        self.assertFalse(one == other)

    def test_unlike_beginnings(self):
        hall = row_hall()
        for other in (Hall(tailed(), ropes_in_a_row("xyz"), standing_of("xyz", "aab")),
                      Hall(square(), ropes_in_a_ring("xyz"), standing_of("xyz", "aab")),
                      Hall(square(), ropes_in_a_row("xyz", ["y"]), standing_of("xyz", "aab")),
                      Hall(square(), ropes_in_a_row("xyz"), standing_of("xyz", "aad")),
                      Hall(square(), ropes_in_a_row("wxyz"), standing_of("wxyz", "aaab"))):
            self.assertFalse(hall == other)
            self.assertTrue(hall != other)

    def test_nothing_of_another_kind(self):
        hall = row_hall()
        for thing in anything() + [Hall, square(), ropes_in_a_row("xyz"), hall.standing_at(), hall.acts()]:
            self.assertFalse(hall == thing)
            self.assertFalse(thing == hall)
            self.assertTrue(hall != thing)


class Told(Holding):
    def test_told_anew(self):
        hall = row_hall()
        hall.go("x", "d")
        kept = copy.deepcopy(self.told(hall))
        hall.acts().clear()
        hall.standing_at().clear()
        hall.standing_at(0)["x"] = "c"
        hall.often()["x"] = 5
        self.assertIsNot(hall.house(), hall.house())
        self.assertIsNot(hall.company_at(), hall.company_at())
        self.assertIsNot(hall.company_at(0), hall.company_at(0))
        self.assertEqual(self.told(hall), kept)

    def test_a_house_or_company_handed_in_is_not_the_one_told(self):
        house, company = square(), ropes_in_a_row("xyz")
        hall = Hall(house, company, standing_of("xyz", "aab"))
        self.assertIsNot(hall.house(), house)
        self.assertIsNot(hall.company_at(), company)
        hall.cut("x", "y")
        self.assertEqual(company, ropes_in_a_row("xyz"))


if __name__ == "__main__":
    unittest.main()
