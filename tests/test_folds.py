import copy
import unittest

from samples import (all_dicts, all_standings, anything, folded, grid, one_room, over, parts, plain_read, ring_of,
                     rooms_by, ropes_in_a_ring, ropes_in_a_row, row_of, shrunk_walks, square, standing_of, tailed, tree,
                     walks_of)
from tautropes.company import Company
from tautropes.errors import Apart, NoFold, NoFolk, NoLead, NoLift, NoRoom, NoStanding
from tautropes.folds import is_fold, lifted, lifted_walk, lowered
from tautropes.house import House
from tautropes.leads import spread
from tautropes.standings import goings, gone, is_standing
from tautropes.ways import is_led


def plain_fold(above, below, thing):
    """The plain words of a fold, of a dict from all rooms above to rooms below."""
    for room in above.rooms():
        for near in above.beside(room):
            if thing[near] not in below.beside(thing[room]):
                return False
        for near in below.beside(thing[room]):
            if [thing[other] for other in above.beside(room)].count(near) != 1:
                return False
    return set(thing.values()) == set(below.rooms())


def plain_over(above, fold, walk):
    """All walks above that lie over a walk below."""
    found = [(room,) for room in above.rooms() if fold[room] == walk[0]]
    for room in walk[1:]:
        found = [rooms + (near,) for rooms in found for near in above.beside(rooms[-1]) if fold[near] == room]
    return found


class Folds(unittest.TestCase):
    def test_folds(self):
        for above, below, fold in folded():
            kept = dict(fold)
            self.assertIs(is_fold(above, below, fold), True)
            self.assertEqual(fold, kept)
        above, fold = over(square(), {("a", "b"): 1})
        self.assertIs(is_fold(above=above, below=square(), thing=fold), True)

    def test_each_dict_held_against_the_plain_words(self):
        for above, below in ((square(), square()), (House(["a", "b"], [("a", "b")]), House(["x", "y"], [("x", "y")])),
                             (House(list("abcd"), row_of("ab") + row_of("cd")), House(["x", "y"], [("x", "y")])),
                             (House(list("abcd"), row_of("ab") + row_of("cd")), House(list("wxyz"), row_of("wx"))),
                             (tailed(), square()), (square(), tailed()), (House(list("abc"), []), House(["x"], [])),
                             (House(list("abc"), []), House(["x", "y"], [])), (House(list("abcde"), row_of("abc")),
                                                                              House(list("wxyz"), row_of("wxy"))),
                             (House(list("abcdef"), ring_of("abcdef")), square()),
                             (House(list("abcdef"), row_of("abc") + row_of("def")), House(list("xyz"), row_of("xyz")))):
            told = [thing for thing in all_dicts(above.rooms(), below.rooms()) if is_fold(above, below, thing)]
            self.assertEqual(told, [thing for thing in all_dicts(above.rooms(), below.rooms())
                                    if plain_fold(above, below, thing)])
        # a ring of four lies over itself in eight ways
        self.assertEqual(sum(is_fold(square(), square(), thing) for thing in all_dicts("abcd", "abcd")), 8)

    def test_two_rooms_over_each_of_a_ring(self):
        eight = House(list("abcdefgh"), ring_of("abcdefgh"))
        self.assertEqual(sum(is_fold(eight, square(), {**dict(zip("abcd", first)), **dict(zip("efgh", second))})
                             for first in ("abcd", "dcba", "bcda") for second in ("abcd", "dcba", "bcda")), 3)

    def test_a_key_too_few_or_too_many(self):
        for above, below, fold in folded():
            room = above.rooms()[0]
            self.assertIs(is_fold(above, below, {other: fold[other] for other in fold if other != room}), False)
            self.assertIs(is_fold(above, below, {**fold, "qq": below.rooms()[0]}), False)
            self.assertIs(is_fold(above, below, {**fold, None: below.rooms()[0]}), False)
            other = {one: fold[one] for one in fold if one != room}
            self.assertIs(is_fold(above, below, {**other, "qq": fold[room]}), False)

    def test_a_room_to_which_none_is_led(self):
        above, fold = over(square(), {("a", "d"): 1})
        more = House(list("abcdq"), ring_of("abcd"))
        self.assertIs(is_fold(above, more, fold), False)
        self.assertIs(is_fold(above, House(list("abcd"), ring_of("abcd")), fold), True)
        self.assertIs(is_fold(one_room(), House(["a", "b"], []), {"a": "a"}), False)
        self.assertIs(is_fold(square(), parts(), dict(zip("abcd", "abcd"))), False)

    def test_a_room_led_to_one_with_more_or_fewer_rooms_beside(self):
        row = House(["a", "b", "c"], row_of("abc"))
        self.assertIs(is_fold(row, House(["x", "y"], [("x", "y")]), {"a": "x", "b": "y", "c": "x"}), False)
        self.assertIs(is_fold(House(["a", "b"], [("a", "b")]), row, {"a": "a", "b": "b"}), False)
        self.assertIs(is_fold(row, row, {"a": "c", "b": "b", "c": "a"}), True)
        self.assertIs(is_fold(row, row, {"a": "a", "b": "b", "c": "a"}), False)

    def test_of_anything(self):
        for thing in anything():
            self.assertIs(is_fold(square(), square(), thing), False)
            self.assertIs(is_fold(square(), square(), {"a": thing, "b": "b", "c": "c", "d": "d"}), thing == "a")
            self.assertIs(is_fold(House(["a", "b"], []), House(["q"], []), thing), False)
            self.assertIs(is_fold(square(), square(), [("a", "a"), thing]), False)
        self.assertIs(is_fold(square(), square(), {"a": "a", "b": "b", "c": "c", "d": ["d"]}), False)
        self.assertIs(is_fold(square(), square(), [(room, room) for room in "abcd"]), False)


class Walks(unittest.TestCase):
    def test_just_one_lies_over_each(self):
        for above, below, fold in folded():
            for begin in below.rooms():
                for walk in walks_of(below, begin, 4) + walks_of(below, begin, 1) + [(begin,)]:
                    told = plain_over(above, fold, walk)
                    self.assertEqual(sorted(rooms[0] for rooms in told),
                                     [room for room in above.rooms() if fold[room] == begin])
                    for rooms in told[::2]:
                        self.assertEqual(lifted_walk(above, below, fold, rooms[0], walk), rooms)

    def test_straight_back_and_round_and_round(self):
        above, fold = over(square(), {("a", "d"): 1})
        self.assertEqual(lifted_walk(above, square(), fold, "ay", tuple("ababa")), ("ay", "by", "ay", "by", "ay"))
        self.assertEqual(lifted_walk(above=above, below=square(), fold=fold, room="ax", walk=tuple("abcda")),
                         ("ax", "bx", "cx", "dx", "ay"))
        self.assertEqual(lifted_walk(above, square(), fold, "ax", tuple("abcdabcda")),
                         ("ax", "bx", "cx", "dx", "ay", "by", "cy", "dy", "ax"))
        long = tuple("abcd" * 100)
        told = lifted_walk(above, square(), fold, "ax", long)
        self.assertIs(type(told), tuple)
        self.assertEqual([fold[room] for room in told], list(long))
        self.assertEqual(told[200], "ax")
        self.assertEqual(told[4], "ay")

    def test_turned_about(self):
        self.assertEqual(lifted_walk(square(), square(), {"a": "a", "b": "d", "c": "c", "d": "b"}, "a", tuple("abcd")),
                         tuple("adcb"))

    def refused(self, error, fields, handed):
        kept = copy.deepcopy(handed[2:])
        with self.assertRaises(error) as caught:
            lifted_walk(*handed)
        self.assertIs(type(caught.exception), error)
        self.assertEqual(vars(caught.exception), fields)
        self.assertEqual(handed[2:], kept)

    def test_no_fold_then_no_room_then_apart(self):
        above, fold = over(square(), {("a", "d"): 1})
        for thing in anything():
            self.refused(NoFold, {"asked": thing}, (above, square(), thing, None, ("a",)))
            if thing not in fold if isinstance(thing, str) else True:
                self.refused(NoRoom, {"asked": thing}, (above, square(), fold, thing, ("a",)))
        self.refused(NoFold, {"asked": {**fold, "ax": "b"}}, (above, square(), {**fold, "ax": "b"}, "qq", ("b",)))
        self.refused(NoRoom, {"asked": "a"}, (above, square(), fold, "a", ("b", "c")))
        self.refused(Apart, {}, (above, square(), fold, "ax", ("b", "a")))
        self.refused(Apart, {}, (above, square(), fold, "by", ("a", "b")))


def companies():
    """Companies of one lot."""
    return [Company(["x"], []), ropes_in_a_row("xyz"), ropes_in_a_row("xyz", ["y"]), ropes_in_a_ring("wxyz"),
            ropes_in_a_ring("xyz"), Company(list("wxyz"), [("w", "x"), ("w", "y"), ("w", "z"), ("y", "z")])]


def small_folded():
    return [case for case in folded() if len(case[0].rooms()) <= 12]


class Standings(unittest.TestCase):
    def test_held_against_a_plain_listing(self):
        refused = 0
        for above, below, fold in small_folded():
            for company in companies():
                told = {}
                for high in all_over(above, fold, company):
                    told.setdefault(rooms_by(company, lowered(fold, high)), []).append(high)
                for low in all_standings(below, company)[::11]:
                    for folk in company.folk():
                        for room in above.rooms():
                            refused += self.hold(above, below, fold, company, low, folk, room, told)
        self.assertTrue(refused > 20)

    def hold(self, above, below, fold, company, low, folk, room, told):
        """Hold what is told of one folk and room against all standings above; whether there is none."""
        kept = dict(low), dict(fold)
        found = [high for high in told.get(rooms_by(company, low), []) if high[folk] == room]
        handed = (above, below, fold, company, low, folk, room)
        if fold[room] != low[folk]:
            with self.assertRaises(Apart):
                lifted(*handed)
        elif found:
            self.assertEqual([lifted(*handed)], found)
        else:
            with self.assertRaises(NoLift) as caught:
                lifted(*handed)
            self.assertIs(type(caught.exception), NoLift)
            self.opens(above, fold, company, low, folk, room, caught.exception.walk)
        self.assertEqual((low, fold), kept)
        return fold[room] == low[folk] and not found

    def opens(self, above, fold, company, low, folk, room, walk):
        """Hold that a closed rope-walk of this folk lies under a walk from this room that isn't closed."""
        self.assertIs(type(walk), tuple)
        self.assertEqual((walk[0], walk[-1]), (folk, folk))
        self.assertTrue(all(two in company.roped(one) for one, two in zip(walk, walk[1:])))
        ends = [rooms[-1] for rooms in plain_over(above, fold, plain_read(low, walk)) if rooms[0] == room]
        self.assertEqual(len(ends), 1)
        self.assertNotEqual(ends[0], room)

    def test_a_ring_round_a_ring_of_which_the_ring_above_is_twice_as_long(self):
        above, fold = over(square(), {("a", "d"): 1})
        company = ropes_in_a_ring("wxyz")
        low = standing_of("wxyz", "abcd")
        for folk, room in (("w", "ax"), ("w", "ay"), ("z", "dx"), ("y", "cy")):
            with self.assertRaises(NoLift) as caught:
                lifted(above, square(), fold, company, low, folk, room)
            self.opens(above, fold, company, low, folk, room, caught.exception.walk)
        self.assertEqual(lifted(above=above, below=square(), fold=fold, company=company,
                                standing=standing_of("wxyz", "abcb"), folk="x", room="by"),
                         {"w": "ay", "x": "by", "y": "cy", "z": "by"})
        # folk that go twice round below stand all round above
        eight = ropes_in_a_ring("stuvwxyz")
        self.assertEqual(lifted(above, square(), fold, eight, standing_of("stuvwxyz", "abcdabcd"), "s", "ax"),
                         standing_of("stuvwxyz", ["ax", "bx", "cx", "dx", "ay", "by", "cy", "dy"]))

    def test_lowered(self):
        for above, below, fold in small_folded():
            for company in companies():
                for high in all_over(above, fold, company)[::17]:
                    kept = dict(high), dict(fold)
                    low = lowered(fold=fold, standing=high)
                    self.assertEqual(low, {who: fold[high[who]] for who in high})
                    self.assertTrue(is_standing(below, company, low))
                    for folk in company.folk():
                        self.assertEqual(lifted(above, below, fold, company, low, folk, high[folk]), high)
                    self.assertEqual((high, fold), kept)

    def test_goings_lie_over_goings(self):
        for above, below, fold in small_folded():
            for company in companies():
                for high in all_over(above, fold, company)[::29]:
                    low = lowered(fold, high)
                    self.assertEqual(sorted((who, fold[room]) for who, room in goings(above, company, high)),
                                     goings(below, company, low))

    def test_rows_lie_over_rows(self):
        above, fold = over(grid(), {("a", "b"): 1})
        company = ropes_in_a_row("xyz")
        high = {"x": "ax", "y": "ax", "z": "dx"}
        low = lowered(fold, high)
        row = [("x", "b"), ("z", "a"), ("y", "b"), ("x", "c"), ("z", "b"), ("y", "c"), ("y", "b")]
        trail = {who: [high[who]] for who in high}
        for who, room in row:
            trail[who].append(lifted_walk(above, grid(), fold, trail[who][-1], (fold[trail[who][-1]], room))[-1])
        count = {who: 0 for who in high}
        row_above = []
        for who, _ in row:
            count[who] += 1
            row_above.append((who, trail[who][count[who]]))
        self.assertEqual(lowered(fold, gone(above, company, high, row_above)), gone(grid(), company, low, row))

    def test_led_above_just_where_a_lead_below_lies_under_walks_between(self):
        compared = set()
        for above, below, fold in small_folded()[:4] + small_folded()[5:6]:
            for company in companies()[:5]:
                if len(above.rooms()) ** len(company.folk()) > 9000:
                    continue
                told = all_over(above, fold, company)
                for one in told[::67]:
                    for other in told[::41]:
                        expected = self.lies_under(above, below, fold, company, one, other)
                        self.assertEqual(is_led(above, company, one, other), expected)
                        compared.add(expected)
        self.assertEqual(compared, {True, False})

    def lies_under(self, above, below, fold, company, one, other):
        """Whether some lead below lies under walks between two standings above, by a plain listing of short walks."""
        first, second = lowered(fold, one), lowered(fold, other)
        folk = company.folk()[0]
        for walk in shrunk_walks(below, first[folk], second[folk], 12):
            try:
                walks = spread(below, company, first, second, folk, walk)
            except NoLead:
                continue
            if all(lifted_walk(above, below, fold, one[who], walks[who])[-1] == other[who] for who in one):
                return True
        return False

    def test_twelve_folk_over_forty_rooms(self):
        names = list("abcdefghijklmnopqrst")
        below = House(names, ring_of(names) + [(names[k], names[(k + 5) % 20]) for k in range(20)])
        above, fold = over(below, {("a", "t"): 1, ("a", "f"): 1})
        self.assertEqual((len(above.rooms()), len(above.doors())), (40, 80))
        self.assertIs(is_fold(above, below, fold), True)
        folk = list("abcdefghijkl")
        company = Company(folk, ring_of(folk) + list(zip(folk, folk[2:] + folk[:2])))
        low = {who: "c" for who in folk}
        self.assertEqual(lifted(above, below, fold, company, low, "k", "cy"), {who: "cy" for who in folk})


class Refusals(unittest.TestCase):
    def refused(self, error, fields, handed):
        kept = copy.deepcopy((handed[2], handed[4:]))
        with self.assertRaises(error) as caught:
            lifted(*handed)
        self.assertIs(type(caught.exception), error)
        self.assertEqual(vars(caught.exception), fields)
        self.assertEqual((handed[2], handed[4:]), kept)

    def test_in_the_order_told(self):
        above, fold = over(square(), {("a", "d"): 1})
        company, low = ropes_in_a_ring("wxyz"), standing_of("wxyz", "abcd")
        for thing in anything() + [standing_of("wxyz", "abdc"), standing_of("wxyz", ["ax", "bx", "cx", "dx"])]:
            self.refused(NoFold, {"asked": thing}, (above, square(), thing, company, None, None, None))
            self.refused(NoStanding, {"asked": thing}, (above, square(), fold, company, thing, None, None))
            if thing != "z":
                self.refused(NoFolk, {"asked": thing}, (above, square(), fold, company, low, thing, None))
            self.refused(NoRoom, {"asked": thing}, (above, square(), fold, company, low, "w", thing))
        self.refused(NoRoom, {"asked": "a"}, (above, square(), fold, company, low, "w", "a"))
        self.refused(Apart, {}, (above, square(), fold, company, low, "w", "bx"))
        self.refused(NoLift, {"walk": ("w", "x", "y", "z", "w")}, (above, square(), fold, company, low, "w", "ax"))

    def test_told_anew(self):
        above, fold = over(tree(), {})
        company, low = ropes_in_a_row("xy"), {"x": "a", "y": "b"}
        for call in (lambda: lifted(above, tree(), fold, company, low, "x", "ay"), lambda: lowered(fold, {"x": "ay"})):
            first = call()
            kept = dict(first)
            first.clear()
            self.assertEqual(call(), kept)
        self.assertEqual(low, {"x": "a", "y": "b"})


def all_over(above, fold, company):
    """All standings above of a company of one lot, by a walk along its ropes from each room."""
    found = []
    order = [company.folk()[0]]
    for who in order:
        order.extend(near for near in company.roped(who) if near not in order)
    edge = [{order[0]: room} for room in above.rooms()]
    for who in order[1:]:
        edge = [{**standing, who: room} for standing in edge for room in above.rooms()
                if all(room == standing[near] or room in above.beside(standing[near])
                       for near in company.roped(who) if near in standing)]
    for standing in edge:
        found.append({who: standing[who] for who in company.folk()})
    return found


if __name__ == "__main__":
    unittest.main()
