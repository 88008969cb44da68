import copy
import unittest

from samples import (all_standings, anything, grid, houses, no_names, one_room, parts, reach, rooms_by,
                     ropes_in_a_ring, ropes_in_a_row, small_cases, square, tailed, tree, two_rings)
from tautropes.changed import cut, freed, posted, tied, together, with_door, without_door
from tautropes.company import Company
from tautropes.errors import Alike, NoDoor, NoPost, NoRope, Three
from tautropes.house import House
from tautropes.standings import is_standing
from tautropes.ways import fewest, is_led


def band():
    """A ring of three, a row of two, one alone; a post in each."""
    return Company(list("abcdef"), [("a", "b"), ("b", "c"), ("c", "a"), ("d", "e")], ["f", "d", "a"])


def companies():
    return [band(), Company(["x"], []), Company(["x"], [], ["x"]), ropes_in_a_ring("wxyz", ["w"]),
            ropes_in_a_row("wxyz", ["x", "y"]), Company(list("wxyz"), [])]


def kept(company):
    return company.folk(), company.ropes(), company.posts(), company.lots()


def rooms_kept(house):
    return house.rooms(), house.doors(), [house.beside(room) for room in house.rooms()]


class Refusing(unittest.TestCase):
    def refused(self, error, fields, call):
        with self.assertRaises(error) as caught:
            call()
        self.assertIs(type(caught.exception), error)
        self.assertEqual(vars(caught.exception), fields)
        for name in fields:
            self.assertIs(type(vars(caught.exception)[name]), type(fields[name]))


class Ropes(Refusing):
    def test_each_rope_more_and_out_again(self):
        for company in companies():
            told = kept(company)
            for one in company.folk():
                for other in company.folk():
                    if one == other or other in company.roped(one):
                        continue
                    more = tied(company, one, other)
                    self.assertIs(type(more), Company)
                    self.assertEqual(more.ropes(), sorted(told[1] + [(min(one, other), max(one, other))]))
                    self.assertEqual((more.folk(), more.posts()), (told[0], told[2]))
                    self.assertEqual(more, tied(company=company, one=other, other=one))
                    self.assertEqual(cut(more, one, other), company)
                    self.assertEqual(cut(more, other, one), company)
                    self.assertEqual(kept(company), told)

    def test_each_rope_out_and_in_again(self):
        for company in companies():
            told = kept(company)
            for one, other in company.ropes():
                less = cut(company, one, other)
                self.assertEqual(less.ropes(), [rope for rope in told[1] if rope != (one, other)])
                self.assertEqual((less.folk(), less.posts()), (told[0], told[2]))
                self.assertEqual(less, cut(company=company, one=other, other=one))
                self.assertEqual(tied(less, other, one), company)
                self.assertEqual(kept(company), told)

    def test_lots_join_and_fall_apart(self):
        self.assertEqual(tied(band(), "e", "f").lots(), [["a", "b", "c"], ["d", "e", "f"]])
        self.assertEqual(cut(band(), "e", "d").lots(), [["a", "b", "c"], ["d"], ["e"], ["f"]])
        self.assertEqual(cut(band(), "c", "a").lots(), band().lots())

    def test_there_is_one_or_none(self):
        for one, other in (("a", "b"), ("b", "a"), ("c", "a"), ("e", "d")):
            self.refused(NoRope, {"asked": (one, other)}, lambda: tied(band(), one, other))
        for one, other in (("a", "d"), ("d", "a"), ("f", "e")):
            self.refused(NoRope, {"asked": (one, other)}, lambda: cut(band(), one, other))

    def test_what_is_no_two_unlike_folk(self):
        for call in (tied, cut):
            self.refused(NoRope, {"asked": ("a", "a")}, lambda: call(band(), "a", "a"))
            for thing in no_names() + ["q", ("a", "b"), ["a", "b"]]:
                for handed in ((thing, "a"), ("a", thing), (thing, thing), (thing, None), ("q", thing)):
                    before = copy.deepcopy(handed)
                    self.refused(NoRope, {"asked": handed}, lambda: call(band(), *handed))
                    self.assertEqual(handed, before)

    def test_the_very_things_are_told(self):
        handed = ["a"], {"b": []}
        with self.assertRaises(NoRope) as caught:
            tied(band(), handed[0], handed[1])
        self.assertIs(caught.exception.asked[0], handed[0])
        self.assertIs(caught.exception.asked[1], handed[1])


class Posts(Refusing):
    def test_each_post_more_and_none_again(self):
        for company in companies():
            told = kept(company)
            for who in company.folk():
                if who in company.posts():
                    less = freed(company, who)
                    self.assertEqual(less.posts(), tuple(one for one in told[2] if one != who))
                    self.assertEqual(posted(less, who), company)
                    changed = less
                else:
                    more = posted(company, who)
                    self.assertEqual(more.posts(), tuple(sorted(told[2] + (who,))))
                    self.assertEqual(freed(more, who), company)
                    changed = more
                self.assertIs(type(changed), Company)
                self.assertEqual((changed.folk(), changed.ropes()), told[:2])
                self.assertEqual(kept(company), told)
        self.assertEqual(posted(company=band(), folk="b").posts(), ("a", "b", "d", "f"))
        self.assertEqual(freed(company=band(), folk="d").posts(), ("a", "f"))

    def test_one_or_none_or_no_folk(self):
        for who in "adf":
            self.refused(NoPost, {"asked": who}, lambda: posted(band(), who))
        for who in "bce":
            self.refused(NoPost, {"asked": who}, lambda: freed(band(), who))
        for thing in no_names() + ["q"]:
            self.refused(NoPost, {"asked": thing}, lambda: posted(band(), thing))
            self.refused(NoPost, {"asked": thing}, lambda: freed(band(), thing))


class Doors(Refusing):
    def test_each_door_more_and_out_again(self):
        for house in houses():
            told = rooms_kept(house)
            for one in house.rooms():
                for other in house.rooms():
                    if one == other or other in house.beside(one):
                        continue
                    third = [room for room in house.beside(one) if room in house.beside(other)]
                    if third:
                        three = min(tuple(sorted((one, other, room))) for room in third)
                        self.refused(Three, {"three": three}, lambda: with_door(house, one, other))
                    else:
                        more = with_door(house, one, other)
                        self.assertIs(type(more), House)
                        self.assertEqual(more.rooms(), told[0])
                        self.assertEqual(more.doors(), sorted(told[1] + [(min(one, other), max(one, other))]))
                        self.assertEqual(more, with_door(house=house, one=other, other=one))
                        self.assertEqual(without_door(more, one, other), house)
                        self.assertEqual(without_door(more, other, one), house)
                    self.assertEqual(rooms_kept(house), told)

    def test_each_door_out_and_in_again(self):
        for house in houses():
            told = rooms_kept(house)
            for one, other in house.doors():
                less = without_door(house, one, other)
                self.assertEqual(less.rooms(), told[0])
                self.assertEqual(less.doors(), [door for door in told[1] if door != (one, other)])
                self.assertEqual(less, without_door(house=house, one=other, other=one))
                self.assertEqual(with_door(less, other, one), house)
                self.assertEqual(rooms_kept(house), told)

    def test_the_least_three(self):
        house = House(list("abcde"), [(one, other) for one in "ce" for other in "abd"])
        self.refused(Three, {"three": ("a", "c", "e")}, lambda: with_door(house, "e", "c"))
        self.refused(Three, {"three": ("a", "b", "c")}, lambda: with_door(house, "b", "a"))

    def test_there_is_one_or_none(self):
        self.refused(NoDoor, {"asked": ("a", "b")}, lambda: with_door(square(), "a", "b"))
        self.refused(NoDoor, {"asked": ("a", "d")}, lambda: with_door(square(), "a", "d"))
        self.refused(NoDoor, {"asked": ("d", "a")}, lambda: with_door(square(), "d", "a"))
        self.refused(NoDoor, {"asked": ("c", "a")}, lambda: without_door(square(), "c", "a"))
        self.refused(NoDoor, {"asked": ("a", "x")}, lambda: without_door(parts(), "a", "x"))

    def test_what_is_no_two_unlike_rooms(self):
        for call in (with_door, without_door):
            self.refused(NoDoor, {"asked": ("a", "a")}, lambda: call(one_room(), "a", "a"))
            for thing in no_names() + ["q", ("a", "b"), ["a", "b"]]:
                for handed in ((thing, "a"), ("a", thing), (thing, thing), (thing, None), ("q", thing)):
                    self.refused(NoDoor, {"asked": handed}, lambda: call(grid(), *handed))


class Together(Refusing):
    def test_put_together(self):
        one, other = ropes_in_a_row("xyz", ["y"]), Company(list("amw"), [("a", "w")], ["w", "a"])
        told = kept(one), kept(other)
        for ropes in ([], [("z", "a")], [["x", "w"], ("z", "a"), ("x", "a")],
                      [(who, near) for who in "zyx" for near in "wma"]):
            for handed in (ropes, tuple(ropes)):
                before = copy.deepcopy(handed)
                both = together(one=one, other=other, ropes=handed)
                self.assertIs(type(both), Company)
                self.assertEqual(both.folk(), ("a", "m", "w", "x", "y", "z"))
                self.assertEqual(both.posts(), ("a", "w", "y"))
                between = [tuple(sorted(rope)) for rope in ropes]
                self.assertEqual(both.ropes(), sorted(one.ropes() + other.ropes() + between))
                self.assertEqual(both, together(other, one, [tuple(rope)[::-1] for rope in ropes]))
                self.assertEqual((kept(one), kept(other), handed), told + (before,))

    def test_many_folk(self):
        one, other = ropes_in_a_ring("abcdefghijkl"), ropes_in_a_ring("mnopqrstuvwx")
        both = together(one, other, [("a", "x")])
        self.assertEqual(len(both.folk()), 24)
        self.assertEqual(both.lots(), [list("abcdefghijklmnopqrstuvwx")])
        self.assertEqual(together(one, other, ()).lots(), [list("abcdefghijkl"), list("mnopqrstuvwx")])

    def test_a_like_folk(self):
        one, other = Company(list("zcybx"), []), Company(list("xaycd"), [("x", "a")])
        self.refused(Alike, {"like": "c"}, lambda: together(one, other, []))
        self.refused(Alike, {"like": "c"}, lambda: together(other, one, [("c", "c")]))
        self.refused(Alike, {"like": "x"}, lambda: together(Company(["x"], []), Company(["x"], []), None))

    def test_ropes_that_are_no_list_or_tuple(self):
        for thing in anything():
            if not isinstance(thing, (list, tuple)):
                self.refused(NoRope, {"asked": thing}, lambda: together(band(), Company(["x"], []), thing))

    def test_what_is_no_pair_of_both(self):
        one, other = ropes_in_a_row("abc"), ropes_in_a_row("xyz")
        for thing in anything() + [("x", "a"), ["y", "b"], ("a", "b"), ("x", "y"), ("a", "a"), ("a", "q"), ("q", "x"),
                                   ("a",), ("a", "x", "y"), "ax", {"a": "x"}, (["a"], "x"), ("a", ["x"]), [("a", "x")]]:
            self.refused(NoRope, {"asked": thing}, lambda: together(one, other, [thing]))
            self.refused(NoRope, {"asked": thing}, lambda: together(one, other, (("a", "x"), thing, None)))
            if thing != "z":
                self.refused(NoRope, {"asked": ("a", thing)}, lambda: together(one, other, [["b", "z"], ("a", thing)]))

    def test_what_came_ahead(self):
        one, other = ropes_in_a_row("abc"), ropes_in_a_row("xyz")
        self.refused(NoRope, {"asked": ("a", "x")},
                     lambda: together(one, other, [("a", "x"), ("a", "y"), ("a", "x"), None]))
        self.refused(NoRope, {"asked": ["a", "x"]}, lambda: together(one, other, (("a", "x"), ["a", "x"], ("x", "a"))))
        self.refused(NoRope, {"asked": ("x", "a")}, lambda: together(one, other, (("a", "x"), ("x", "a"))))

    def test_the_very_thing_is_told(self):
        thing = ["a", "q"]
        with self.assertRaises(NoRope) as caught:
            together(ropes_in_a_row("abc"), ropes_in_a_row("xyz"), [thing])
        self.assertIs(caught.exception.asked, thing)


class WhatIsLed(unittest.TestCase):
    """By a rope or a post more no more is led, by a door more no less; nothing by fewer, or more, goings."""

    def test_a_rope_or_a_post_more(self):
        for house, company in small_cases()[2:9]:
            changes = [posted(company, who) for who in company.folk() if who not in company.posts()]
            changes += [tied(company, one, other) for one in company.folk() for other in company.folk()
                        if one < other and other not in company.roped(one)]
            for changed in changes:
                told = [thing for thing in all_standings(house, changed)]
                for one in told[::31]:
                    self.assertTrue(is_standing(house, company, one))
                    for other in told[::17]:
                        if is_led(house, changed, one, other):
                            self.assertTrue(is_led(house, company, one, other))
                            self.assertTrue(fewest(house, company, one, other) <= fewest(house, changed, one, other))

    def test_a_door_more(self):
        for house, company in small_cases()[2:10]:
            for one_room_of_it, other_room in house.doors():
                less = without_door(house, one_room_of_it, other_room)
                told = all_standings(less, company)
                for one in told[::37]:
                    found = reach(less, company, one)
                    for other in told[::23]:
                        self.assertTrue(is_standing(house, company, other))
                        self.assertEqual(is_led(less, company, one, other), rooms_by(company, other) in found)
                        if is_led(less, company, one, other):
                            self.assertTrue(is_led(house, company, one, other))
                            self.assertTrue(fewest(house, company, one, other) <= fewest(less, company, one, other))

    def test_houses_with_rings_opened(self):
        # a ring of ropes that winds round a ring of rooms can be led anywhere else only where nothing winds
        winding = {"w": "a", "x": "b", "y": "c", "z": "d"}
        self.assertFalse(is_standing(without_door(square(), "a", "d"), ropes_in_a_ring("wxyz"), winding))
        self.assertTrue(is_standing(tailed(), ropes_in_a_ring("wxyz"), winding))
        self.assertTrue(is_led(square(), cut(ropes_in_a_ring("wxyz"), "z", "w"), winding, {who: "a" for who in "wxyz"}))
        self.assertFalse(is_led(square(), ropes_in_a_ring("wxyz"), winding, {who: "a" for who in "wxyz"}))


class Anew(unittest.TestCase):
    def test_methods_of_what_is_told_tell_all(self):
        more = tied(band(), "f", "a")
        self.assertEqual(more.roped("a"), ["b", "c", "f"])
        self.assertEqual(more.roped("f"), ["a"])
        self.assertEqual(cut(more, "a", "b").roped("a"), ["c", "f"])
        self.assertEqual(with_door(tree(), "a", "f").steps("a", "e"), 2)
        self.assertEqual(with_door(tree(), "a", "f").beside("a"), ["b", "f"])
        self.assertIs(without_door(two_rings(), "a", "d").way("a", "e") is None, False)
        self.assertEqual(without_door(tree(), "d", "b").parts(), [["a", "b", "c"], ["d", "e", "f"]])


if __name__ == "__main__":
    unittest.main()
