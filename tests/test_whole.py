"""What is promised of the whole program: point 4, and points 2 and 3 over the whole interface."""

import copy
import importlib
import random
import unittest

from samples import (folded, grid, many_rooms, over, reach, ring_of, rooms_by, ropes_in_a_ring, ropes_in_a_row,
                     sheaf, small_cases, square, standing_of, tailed, tree, two_rings)
from test_interface import CLASSES, FUNCTIONS
from tautropes.changed import posted, tied
from tautropes.company import Company
from tautropes.errors import NoPost, NoRope, NotGone, NotLed, NotNear
from tautropes.folds import is_fold, lifted_walk, lowered
from tautropes.hall import Hall
from tautropes.house import House
from tautropes.leads import is_lead
from tautropes.lots import lot, lots, standings_of
from tautropes.meeting import meet, meetings
from tautropes.papers import is_paper, paper
from tautropes.rings import go_together, leader, led_by, named, root
from tautropes.spelling import read_off, spelled
from tautropes.standings import goings, gone, is_standing
from tautropes.taut import held, held_paper, shows_held
from tautropes.walks import behind, shrunk, turned
from tautropes.wants import bars, wants
from tautropes.ways import fewest, is_led, lead_to, least_of, way_to


def random_house(chance, rooms, doors):
    names = [one + other for one in "abcdefgh" for other in "vwxyz"][:rooms]
    near = {name: set() for name in names}
    told = []
    for _ in range(20 * doors):
        one, other = chance.sample(names, 2)
        if len(told) < doors and other not in near[one] and not near[one] & near[other]:
            near[one].add(other)
            near[other].add(one)
            told.append((one, other))
    return House(names, told)


def random_company(chance, house, many, ropes, posts):
    """A company and a standing of it: folk are stood in some rooms near one another, and roped where they may be."""
    folk = list("abcdefghijkl")[:many]
    begin = chance.choice(house.rooms())
    near = [begin] + house.beside(begin)
    near = near + [room for one in near for room in house.beside(one)]
    standing = {who: chance.choice(near) for who in folk}
    pairs = [(one, other) for one in folk for other in folk if one < other
             and (standing[one] == standing[other] or standing[other] in house.beside(standing[one]))]
    told = chance.sample(pairs, min(ropes, len(pairs)))
    return Company(folk, told, chance.sample(folk, posts)), standing


def wandered(chance, house, company, standing, many):
    """A standing behind so many goings by chance."""
    for _ in range(many):
        able = goings(house, company, standing)
        if able:
            who, room = chance.choice(able)
            standing = {**standing, who: room}
    return standing


def random_cases(seed, many):
    chance = random.Random(seed)
    for turn in range(many):
        house = random_house(chance, chance.choice([6, 10, 16, 40]), chance.choice([8, 15, 30, 60]))
        company, one = random_company(chance, house, chance.choice([3, 6, 9, 12]), chance.choice([4, 10, 24]),
                                      chance.choice([0, 0, 0, 1, 2]))
        yield chance, house, company, one


class OneOfTwo(unittest.TestCase):
    """Of two standings a row as short as can be, or a paper that a looker reads who goes nowhere."""

    def hold(self, house, company, one, other):
        """Hold that just one of both is told; whether it is the row."""
        kept = dict(one), dict(other)
        shown = paper(house, company, one, other)
        self.assertIs(is_led(house, company, one, other), shown is None)
        if shown is None:
            row = way_to(house, company, one, other)
            self.assertEqual(gone(house, company, one, row), other)
            self.assertEqual(len(row), fewest(house, company, one, other))
            lead = lead_to(house, company, one, other)
            self.assertTrue(is_lead(house, company, one, other, lead))
            self.assertEqual(sum(len(walk) - 1 for walk in lead.values()), len(row))
            for who in company.folk():
                self.assertTrue(least_of(house, company, one, other, who) <= [by for by, _ in row].count(who))
            # a paper would have to lie, and the way back is as long
            self.assertEqual(fewest(house, company, other, one), len(row))
        else:
            self.assertTrue(is_paper(house, company, one, other, shown))
            with self.assertRaises(NotLed):
                way_to(house, company, one, other)
            self.assertIsNotNone(paper(house, company, other, one))
        self.assertEqual((one, other), kept)
        return shown is None

    def test_big_ones(self):
        told = []
        for chance, house, company, one in random_cases(4, 60):
            self.assertTrue(self.hold(house, company, one, wandered(chance, house, company, one, 60)))
            room = chance.choice(house.rooms())
            told.append(self.hold(house, company, one, {who: room for who in company.folk()}))
            many = chance.choice([1, 5])
            moved = wandered(chance, house, Company(company.folk(), company.ropes()), one, many)
            told.append(self.hold(house, company, one, moved))
        self.assertEqual(set(told), {True, False})

    def test_no_row_is_shorter(self):
        for house, company in small_cases():
            chance = random.Random(len(house.rooms()))
            told = [dict(zip(company.folk(), rooms)) for rooms in standings_of(house, company)]
            for one in chance.sample(told, min(4, len(told))):
                found = reach(house, company, one)
                for other in chance.sample(told, min(25, len(told))):
                    self.assertEqual(self.hold(house, company, one, other), rooms_by(company, other) in found)
                    if rooms_by(company, other) in found:
                        self.assertEqual(fewest(house, company, one, other), found[rooms_by(company, other)])

    def test_a_rope_or_a_post_more_bars_no_less(self):
        for chance, house, company, one in random_cases(5, 25):
            other = wandered(chance, house, company, one, 40)
            many = fewest(house, company, one, other)
            for change in (lambda: tied(company, *chance.sample(company.folk(), 2)),
                           lambda: posted(company, chance.choice(company.folk()))):
                try:
                    more = change()
                except (NoRope, NoPost):
                    continue
                if is_standing(house, more, one) and is_standing(house, more, other):
                    if self.hold(house, more, one, other):
                        self.assertTrue(fewest(house, more, one, other) >= many)


class EachDoor(unittest.TestCase):
    """Of each folk and each door of its room a row at whose end it goes through, or wants that bar it."""

    def test_each(self):
        told = []
        for _, house, company, standing in random_cases(6, 40):
            firm = held(house, company, standing)
            for who in company.folk():
                for room in house.beside(standing[who]):
                    word, shown = wants(house, company, standing, who, room)
                    told.append(word)
                    if word == "goes":
                        self.assertEqual(shown[-1], (who, room))
                        self.assertEqual([by for by, _ in shown].count(who), 1)
                        self.assertEqual(len({by for by, _ in shown}), len(shown))
                        self.assertEqual(gone(house, company, standing, shown)[who], room)
                        self.assertNotIn(who, firm)
                    else:
                        self.assertTrue(bars(house, company, standing, who, room, shown))
            for who in firm:
                self.assertTrue(shows_held(house, company, standing, who, held_paper(house, company, standing, who)))
        self.assertTrue(told.count("goes") > 100 and told.count("barred") > 100)


class ClosedWalks(unittest.TestCase):
    """Their rings, roots, which go together, all walks that lead one to another."""

    def walks(self, chance, house, begin):
        """A closed walk of this room by chance."""
        walk = (begin,)
        for _ in range(chance.choice([3, 10, 25])):
            walk = walk + (chance.choice(house.beside(walk[-1])),)
        return walk + house.way(walk[-1], begin)[1:]

    def test_each(self):
        chance = random.Random(8)
        wound = 0
        for house in (two_rings(), grid(), sheaf(), many_rooms(), tailed()):
            for _ in range(30):
                begin, end = chance.choice(house.rooms()), chance.choice(house.rooms())
                walk = self.walks(chance, house, begin)
                lead = shrunk(house.way(begin, end) + self.walks(chance, house, end)[1:])
                other = led_by(walk, lead)
                self.assertEqual(named(walk), named(other))
                found = leader(house, walk, other)
                self.assertEqual(led_by(walk, found), other)
                self.assertEqual(read_off(house, begin, spelled(house, walk)), shrunk(walk))
                if not named(walk):
                    continue
                wound += 1
                base, times = root(walk)
                again = base
                for _ in range(times - 1):
                    again = behind(again, base)
                self.assertEqual(again, shrunk(walk))
                self.assertTrue(go_together(walk, turned(base)))
                # the lead is so many times the root, then the told one
                turns = behind(lead, turned(found))
                self.assertTrue(turns == (begin,) or root(turns)[0] in (base, turned(base)))
        self.assertTrue(wound > 50)


class Together(unittest.TestCase):
    """Whether folk can all meet, where with fewest goings; the lots of standings."""

    def test_meetings(self):
        met = []
        for chance, house, company, standing in random_cases(9, 30):
            told = meetings(house, company, standing)
            met.append(len(told) > 0)
            self.assertEqual([room for room, _ in told],
                             [room for room in house.rooms()
                              if is_led(house, company, standing, {who: room for who in company.folk()})])
            for room, many in told[:5]:
                row = meet(house, company, standing, room)
                self.assertEqual(len(row), many)
                self.assertEqual(set(gone(house, company, standing, row).values()), {room})
        self.assertEqual(set(met), {True, False})

    def test_lots(self):
        for house, company in small_cases():
            told = lots(house, company)
            self.assertEqual(sorted(sum(told, [])), standings_of(house, company))
            for found in told[:6]:
                self.assertEqual(lot(house, company, dict(zip(company.folk(), found[-1]))), found)


class OverHouses(unittest.TestCase):
    """Over a house that folds onto another one goings are those below, led along."""

    def test_goings_and_rows(self):
        chance = random.Random(11)
        for above, below, fold in folded():
            self.assertTrue(is_fold(above, below, fold))
            for _ in range(6):
                company, high = random_company(chance, above, 4, 5, chance.choice([0, 1]))
                low = lowered(fold, high)
                self.assertTrue(is_standing(below, company, low))
                self.assertEqual(held(below, company, low), held(above, company, high))
                for _ in range(12):
                    self.assertEqual(sorted((who, fold[room]) for who, room in goings(above, company, high)),
                                     goings(below, company, low))
                    for who in company.folk():
                        for room in above.beside(high[who]):
                            self.assertEqual(wants(above, company, high, who, room)[0],
                                             wants(below, company, low, who, fold[room])[0])
                    high = wandered(chance, above, company, high, 1)
                    low = lowered(fold, high)

    def test_rows_above_are_rows_below(self):
        chance = random.Random(12)
        below = House(list("abcdefgh"), ring_of("abcdefgh") + [("a", "d"), ("e", "h")])
        above, fold = over(below, {("a", "h"): 1, ("a", "d"): 1})
        for _ in range(20):
            company, one = random_company(chance, above, 6, 8, 0)
            other = wandered(chance, above, company, one, 50)
            first, second = lowered(fold, one), lowered(fold, other)
            row = way_to(above, company, one, other)
            self.assertEqual(gone(below, company, first, [(who, fold[room]) for who, room in row]), second)
            self.assertTrue(fewest(below, company, first, second) <= len(row))
            # of a row below the one above leads where its walks lead
            row = way_to(below, company, first, second)
            now = dict(one)
            for who, room in row:
                step = lifted_walk(above, below, fold, now[who], (fold[now[who]], room))
                now = gone(above, company, now, [(who, step[-1])])
            self.assertEqual(lowered(fold, now), second)


class Histories(unittest.TestCase):
    """Behind every history of a hall all is as told of the house, company and standing of now."""

    def test_behind_long_ones(self):
        for chance, house, company, standing in random_cases(13, 12):
            hall = Hall(house, company, standing)
            for _ in range(80):
                one, other = chance.sample(company.folk(), 2)
                room = chance.choice(house.beside(hall.standing_at()[one]) + [hall.standing_at()[other]])
                calls = [(hall.go, (one, room))] * 6 + [(hall.tie, (one, other)), (hall.cut, (one, other))]
                call, names = chance.choice(calls + [(hall.post, (one,)), (hall.free, (one,))])
                try:
                    call(*names)
                except (NotGone, NoRope, NoPost, NotNear):
                    pass
                if chance.random() < 0.2 and hall.acts():
                    hall.back()
            now, there = hall.company_at(), hall.standing_at()
            self.assertTrue(is_standing(house, now, there))
            self.assertEqual(hall.home(), self.home(house, now, there, standing))
            moved = wandered(chance, house, now, there, 30)
            self.assertIs(hall.can(moved), True)
            for who in company.folk():
                for room in house.beside(there[who]):
                    self.assertEqual(hall.wants(who, room), wants(house, now, there, who, room))
                self.assertEqual((hall.trail(who)[0], hall.trail(who)[-1]), (standing[who], there[who]))

    def home(self, house, company, now, first):
        if not is_standing(house, company, first) or not is_led(house, company, now, first):
            return None
        return fewest(house, company, now, first)


def handed():
    """Right arguments of each function and method of the interface, by name."""
    house, company, one = square(), ropes_in_a_row("xyz"), standing_of("xyz", "aab")
    other = standing_of("xyz", "bcc")
    round_it, lead = tuple("abcda"), lead_to(square(), ropes_in_a_row("xyz"), one, other)
    above, fold = over(square(), {("a", "d"): 1})
    here = {"house": house, "company": company, "standing": one}
    two = {"house": house, "company": company, "one": one, "other": other}
    by_lead = {"house": house, "company": company, "one": one, "lead": lead}
    return {
        "is_walk": {"house": house, "thing": round_it}, "shrunk": {"walk": round_it}, "turned": {"walk": tuple("abc")},
        "behind": {"one": tuple("abc"), "other": tuple("cd")}, "core": {"walk": tuple("babcdab")},
        "named": {"walk": tuple("cbadc")}, "root": {"walk": tuple("abcdabcda")},
        "led_by": {"walk": round_it, "lead": tuple("ab")}, "go_together": {"one": round_it, "other": tuple("adcba")},
        "leader": {"house": house, "one": round_it, "other": tuple("bcdab")},
        "count_walks": {"house": house, "one": "a", "other": "b", "steps": 5},
        "all_rings": {"house": house, "steps": 4},
        "spare_doors": {"house": house}, "spelled": {"house": house, "walk": round_it},
        "read_off": {"house": house, "room": "b", "spelling": [(0, 1)]},
        "is_rope_walk": {"company": company, "thing": tuple("xyx")},
        "is_standing": {"house": house, "company": company, "thing": one},
        "goings": here, "gone": {**here, "row": [("x", "d"), ("z", "a")]},
        "read": {"standing": one, "rope_walk": tuple("xyz")}, "is_taut": {"standing": one, "rope_walk": tuple("yz")},
        "goes_on": {"company": company, "standing": one, "rope_walk": tuple("yz")}, "held": here,
        "held_paper": {**here, "company": posted(company, "y"), "folk": "y"},
        "shows_held": {**here, "folk": "x", "thing": ()}, "wants": {**here, "folk": "y", "room": "d"},
        "bars": {**here, "folk": "y", "room": "d", "thing": (("y", "z"),)}, "is_lead": {**two, "thing": lead},
        "spread": {**two, "folk": "y", "walk": tuple("abc")}, "all_leads": {**two, "folk": "z"}, "ahead": by_lead,
        "count_rows": by_lead, "row_at": {**by_lead, "number": 1}, "paper": two, "is_led": two, "fewest": two,
        "is_paper": {**two, "thing": ("apart", "x")}, "way_to": two, "lead_to": two, "least_of": {**two, "folk": "x"},
        "tension": {"standing": one, "rope_walk": tuple("xyx")}, "slack": {"standing": one, "rope_walk": tuple("xyx")},
        "rope_rings": {"company": ropes_in_a_ring("xyz"), "folk": "y"}, "meetings": here, "meet": {**here, "room": "d"},
        "lots": {"house": house, "company": company}, "standings_of": {"house": house, "company": company}, "lot": here,
        "tied": {"company": company, "one": "z", "other": "x"}, "cut": {"company": company, "one": "z", "other": "y"},
        "posted": {"company": company, "folk": "y"}, "freed": {"company": posted(company, "x"), "folk": "x"},
        "together": {"one": company, "other": Company(["w", "v"], []), "ropes": [("x", "w"), ["y", "v"]]},
        "with_door": {"house": tree(), "one": "a", "other": "f"},
        "without_door": {"house": house, "one": "d", "other": "a"},
        "named_house": {"house": house, "names": dict(zip("abcd", "bcde"))},
        "named_company": {"company": company, "names": dict(zip("xyz", "yza"))},
        "named_standing": {"standing": one, "names": dict(zip("xyz", "yza")), "rooms": dict(zip("abcd", "bcde"))},
        "is_fold": {"above": above, "below": house, "thing": fold},
        "lifted_walk": {"above": above, "below": house, "fold": fold, "room": "ay", "walk": round_it},
        "lowered": {"fold": fold, "standing": standing_of("xyz", ["ax", "bx", "bx"])},
        "lifted": {"above": above, "below": house, "fold": fold, "company": company, "standing": one, "folk": "z",
                   "room": "by"},
        "ball": {"house": house, "room": "c", "steps": 3}, "show_hall": {"hall": Hall(house, company, one)},
        "read_hall": {"text": "room a\nfolk x\nat x a\nacts\npost x"},
    }


def spoil(thing):
    """Change all lists and dicts within what was told."""
    for part in list(thing.values()) if isinstance(thing, dict) else thing if isinstance(thing, (list, tuple)) else []:
        spoil(part)
    if isinstance(thing, (list, dict)):
        thing.clear()


class Interface(unittest.TestCase):
    def test_by_place_and_by_name_in_any_order_and_told_anew(self):
        asked = handed()
        self.assertEqual(set(asked), {word for functions in FUNCTIONS.values() for word in functions})
        for file, functions in FUNCTIONS.items():
            for word, names in functions.items():
                function = vars(importlib.import_module("tautropes." + file))[word]
                self.assertEqual(set(asked[word]), set(names.split()), word)
                by_place = [asked[word][name] for name in names.split()]
                by_name = {name: asked[word][name] for name in reversed(names.split())}
                kept = copy.deepcopy(by_name)
                told = function(*by_place)
                again = function(**by_name)
                self.assertEqual(told, again, word)
                before = copy.deepcopy(told)
                spoil(again)
                self.assertEqual(told, before, word)
                self.assertEqual(function(*by_place[:1], **dict(list(by_name.items())[:-1])), before, word)
                self.assertEqual(by_name, kept, word)

    def test_methods_by_name(self):
        house = House(doors=[("b", "a")], rooms=["a", "b"])
        self.assertEqual((house.beside(room="a"), house.steps(other="b", one="a"), house.way(other="b", one="a")),
                         (["b"], 1, ("a", "b")))
        company = Company(posts=["x"], ropes=[], folk=["x", "y"])
        self.assertEqual((company.roped(folk="x"), company.posts()), ([], ("x",)))
        hall = Hall(standing={"x": "a", "y": "a"}, company=company, house=house)
        hall.tie(other="x", one="y")
        hall.cut(other="x", one="y")
        hall.post(folk="y")
        hall.free(folk="y")
        hall.go(room="b", folk="y")
        self.assertEqual(hall.wants(room="a", folk="y"), ("goes", [("y", "a")]))
        self.assertIs(hall.can(other={"x": "a", "y": "a"}), True)
        self.assertEqual((hall.trail(folk="y"), hall.standing_at(moment=5)["y"], hall.company_at(moment=0)),
                         (("a", "b"), "b", company))

    def test_no_house_company_or_hall_equals_another_kind(self):
        house, company = House(["x"], []), Company(["x"], [])
        hall = Hall(house, company, {"x": "x"})
        for one in (house, company, hall):
            for other in (house, company, hall):
                self.assertEqual(one == other, one is other)
        self.assertEqual({word for _, word in CLASSES}, {"House", "Company", "Hall"})


if __name__ == "__main__":
    unittest.main()
