import unittest

from samples import (all_standings, anything, many_rooms, one_going_on, reach, ring_of, rope_walks, ropes_in_a_ring,
                     ropes_in_a_row, row_of, sheaf, small_cases, square, standing_of, tailed, tree)
from tautropes.company import Company
from tautropes.errors import NoDoor, NoFolk, NoRoom, NoStanding
from tautropes.house import House
from tautropes.standings import gone
from tautropes.wants import bars, wants

LASSO_FOLK = "uvwxyz"


def lasso(posts=()):
    """A ring of six ropes: u, then five round the ring of the house, the first and last of them in room a."""
    return ropes_in_a_ring(LASSO_FOLK, posts)


AROUND = standing_of(LASSO_FOLK, "pabcda")
MEETING = standing_of("tuvwxyz", "pabccda")


def fewest_to_go(house, company, standing, folk, room):
    """With how few goings the folk goes there, it itself but this once, by a plain search; None where it can't."""
    least = None
    for rooms, many in reach(house, company, standing, [folk]).items():
        for who, other in one_going_on(house, company, rooms):
            if who == folk and other[company.folk().index(folk)] == room:
                least = many + 1 if least is None else min(least, many + 1)
    return least


def plain_chains(company, standing, folk, room, most):
    """All chains of at most so many folk with where the last is wanted, by the plain words."""
    chains = [((folk,), room)]
    edge = list(chains)
    for _ in range(most - 1):
        edge = [(chain + (other,), standing[chain[-1]]) for chain, wanted in edge
                for other in company.roped(chain[-1]) if standing[other] not in (standing[chain[-1]], wanted)]
        chains += edge
    return chains


def plainly_bars(company, standing, chains):
    """Whether one or two chains, each with where its last folk is wanted, end so that they bar."""
    chain, room = chains[0]
    if len(chains) == 1:
        again = [place for place in range(len(chain) - 2) if chain[place:place + 2] == chain[-2:]]
        return chain[-1] in company.posts() or len(again) > 0
    other, wanted = chains[1]
    if room == wanted:
        return False
    roped = other[-1] in company.roped(chain[-1]) and standing[chain[-1]] == standing[other[-1]]
    return chain[-1] == other[-1] or roped


def cases():
    yield from small_cases()
    yield tailed(), lasso()
    yield sheaf(), Company(list("vwxyz"), [("v", "w"), ("v", "x"), ("w", "y"), ("x", "z")], ["z"])


class Wants(unittest.TestCase):
    def check(self, house, company, standing, folk, room):
        kept = dict(standing)
        told = wants(house, company, standing, folk, room)
        self.assertIs(type(told), tuple)
        self.assertEqual(len(told), 2)
        if told[0] == "goes":
            row = told[1]
            self.assertIs(type(row), list)
            self.assertEqual(row[-1], (folk, room))
            self.assertEqual(len({who for who, _ in row}), len(row))
            self.assertEqual(gone(house, company, standing, row)[folk], room)
        else:
            self.assertEqual(told[0], "barred")
            self.assertIs(type(told[1]), tuple)
            ends = dict(plain_chains(company, standing, folk, room, max(map(len, told[1]))))
            self.assertTrue(plainly_bars(company, standing, [(chain, ends[chain]) for chain in told[1]]))
            self.assertIs(bars(house, company, standing, folk, room, told[1]), True)
        self.assertEqual(standing, kept)
        return told

    def test_small_companies_held_against_a_plain_search(self):
        for house, company in cases():
            told = all_standings(house, company)
            for standing in told[::max(5, len(told) // 25)]:
                for folk in company.folk():
                    for room in house.beside(standing[folk]):
                        told = self.check(house, company, standing, folk, room)
                        right = fewest_to_go(house, company, standing, folk, room)
                        self.assertEqual(len(told[1]) if told[0] == "goes" else None, right)

    def test_along_a_row(self):
        company = ropes_in_a_row("wxyz")
        standing = standing_of("wxyz", "abcd")
        self.assertEqual(wants(house=square(), company=company, standing=standing, folk="w", room="d"),
                         ("goes", [("z", "c"), ("y", "b"), ("x", "a"), ("w", "d")]))
        self.assertEqual(wants(square(), company, standing, "w", "b"), ("goes", [("w", "b")]))
        self.assertEqual(wants(square(), company, standing, "x", "c"), ("goes", [("w", "b"), ("x", "c")]))

    def test_one_folk(self):
        self.assertEqual(wants(square(), Company(["x"], []), {"x": "a"}, "x", "d"), ("goes", [("x", "d")]))

    def test_a_post_wants_nothing_and_is_barred(self):
        company = ropes_in_a_row("wxyz", ["w"])
        told = wants(square(), company, standing_of("wxyz", "abcd"), "w", "b")
        self.assertEqual(told, ("barred", (("w",),)))

    def test_a_chain_to_a_post(self):
        company = ropes_in_a_row("wxyz", ["z"])
        told = self.check(square(), company, standing_of("wxyz", "abcd"), "w", "d")
        self.assertEqual(told, ("barred", (("w", "x", "y", "z"),)))
        self.assertEqual(wants(square(), company, standing_of("wxyz", "abcc"), "w", "d"),
                         ("goes", [("y", "b"), ("x", "a"), ("w", "d")]))

    def test_a_chain_that_comes_round(self):
        company = ropes_in_a_ring("wxyz")
        told = self.check(square(), company, standing_of("wxyz", "abcd"), "w", "b")
        self.assertEqual(len(told[1]), 1)
        chain = told[1][0]
        self.assertIn(chain[-2:], [chain[place:place + 2] for place in range(len(chain) - 2)])

    def test_two_chains_with_one_folk_in_unlike_rooms(self):
        told = self.check(tailed(), lasso(), AROUND, "u", "q")
        self.assertEqual(told[0], "barred")
        self.assertEqual(len(told[1]), 2)
        ends = {chain[-1] for chain in told[1]}
        self.assertEqual(len(ends), 1)
        # the ring is slack by two: towards it u may go
        self.assertEqual(wants(tailed(), lasso(), AROUND, "u", "a"), ("goes", [("u", "a")]))

    def test_two_chains_with_two_roped_in_one_room(self):
        told = self.check(tailed(), ropes_in_a_ring("tuvwxyz"), MEETING, "t", "q")
        self.assertEqual(told[0], "barred")
        self.assertEqual(sorted(chain[-1] for chain in told[1]), ["w", "x"])

    def test_where_two_are_wanted_in_one_room(self):
        house = House(list("abcde"), row_of("abcde"))
        company = Company(list("xyz"), [("x", "y"), ("x", "z"), ("y", "z")])
        told = self.check(house, company, standing_of("xyz", "bcc"), "x", "a")
        self.assertEqual(len(told[1]), 3)
        # each of two is wanted by two others, and goes but once
        fan = Company(list("vwxyz"), [("v", "w"), ("v", "x"), ("w", "y"), ("x", "y"), ("y", "z")])
        told = self.check(house, fan, standing_of("vwxyz", "bccde"), "v", "a")
        self.assertEqual(sorted(told[1]), [("v", "a"), ("w", "b"), ("x", "b"), ("y", "c"), ("z", "d")])

    def test_going_elsewhere_first_is_not_asked(self):
        # x could go to c by going round, but from a it is not beside
        company = ropes_in_a_row("xyz", ["z"])
        told = wants(square(), company, standing_of("xyz", "abb"), "x", "d")
        self.assertEqual(told, ("goes", [("y", "a"), ("x", "d")]))

    def test_told_anew(self):
        company = ropes_in_a_row("wxyz")
        first = wants(square(), company, standing_of("wxyz", "abcd"), "w", "d")
        first[1].clear()
        self.assertEqual(len(wants(square(), company, standing_of("wxyz", "abcd"), "w", "d")[1]), 4)

    def test_big(self):
        house = many_rooms()
        folk = list("abcdefghijkl")
        company = Company(folk, row_of(folk))
        near = house.way("av", "hz")
        standing = {who: near[min(place, len(near) - 1)] for place, who in enumerate(folk)}
        away = [room for room in house.beside(standing["a"]) if room != near[1]][0]
        self.check(house, company, standing, "a", away)
        row = House(["a" + sign for sign in "abcdefghijklmnop"], row_of(["a" + sign for sign in "abcdefghijklmnop"]))
        standing = {who: row.rooms()[place + 1] for place, who in enumerate(folk)}
        self.assertEqual(len(wants(row, company, standing, "a", "aa")[1]), 12)


class Bars(unittest.TestCase):
    def test_all_chains_of_small_companies(self):
        for house, company in cases():
            for standing in all_standings(house, company)[::23]:
                for folk in company.folk()[:3]:
                    for room in house.beside(standing[folk]):
                        chains = plain_chains(company, standing, folk, room, 7)
                        for one in chains:
                            self.assertIs(bars(house, company, standing, folk, room, (one[0],)),
                                          plainly_bars(company, standing, [one]))
                            for other in chains[:12]:
                                self.assertIs(bars(house, company, standing, folk, room, (one[0], other[0])),
                                              plainly_bars(company, standing, [one, other]))

    def test_rope_walks_that_are_no_chains(self):
        for house, company in cases():
            for standing in all_standings(house, company)[::37]:
                folk = company.folk()[0]
                for room in house.beside(standing[folk]):
                    chains = dict(plain_chains(company, standing, folk, room, 6))
                    for who in company.folk():
                        for walk in rope_walks(company, who, 5):
                            if walk not in chains:
                                self.assertIs(bars(house, company, standing, folk, room, (walk,)), False)
                                self.assertIs(bars(house, company, standing, folk, room, (walk, (folk,))), False)

    def test_none_where_it_goes(self):
        for house, company in cases():
            for standing in all_standings(house, company)[::17]:
                for folk in company.folk():
                    for room in house.beside(standing[folk]):
                        if wants(house, company, standing, folk, room)[0] == "goes":
                            chains = [chain for chain, _ in plain_chains(company, standing, folk, room, 7)]
                            for chain in chains:
                                self.assertIs(bars(house, company, standing, folk, room, (chain,)), False)
                                for other in chains:
                                    self.assertIs(bars(house, company, standing, folk, room, (chain, other)), False)

    def test_with_one_thing_otherwise(self):
        standing = standing_of("wxyz", "abcd")
        company = ropes_in_a_row("wxyz", ["z"])
        right = ("w", "x", "y", "z")

        def told(thing, folk="w", room="d", where=standing):
            return bars(house=square(), company=company, standing=where, folk=folk, room=room, thing=thing)

        self.assertIs(told((right,)), True)
        for wrong in (right, [right], (list(right),), ("wxyz",), (right[:-1],), (right[1:],), (right, right), (),
                      (right, right, right), (right + ("y",),), (right[:2] + right[1:],), (("w", "z"),), ((),),
                      ((), right), ("w",), (("w",),), (("z",),), {right: right}, (right, ("w",)), (right[::-1],)):
            self.assertIs(told(wrong), False, wrong)
        self.assertIs(told((right,), room="b"), False)
        self.assertIs(told((right[1:],), folk="x", room="a"), True)
        self.assertIs(told((right,), where=standing_of("wxyz", "abcc")), False)

    def test_two_chains_with_one_thing_otherwise(self):
        one, other = ("u",), tuple("uvwxyzu")
        self.assertIs(bars(tailed(), lasso(), AROUND, "u", "q", (one, other)), True)
        self.assertIs(bars(tailed(), lasso(), AROUND, "u", "q", (other, one)), True)
        for wrong in ((one,), (other,), (one, one), (other, other), (one, other[:-1]), (one, other, one),
                      (other, other[::-1]), [one, other], (one, list(other))):
            self.assertIs(bars(tailed(), lasso(), AROUND, "u", "q", wrong), False, wrong)
        # towards the ring both want u in one room, and its neighbours in that room aren't wanted
        self.assertIs(bars(tailed(), lasso(), AROUND, "u", "a", (one, other)), False)
        company = ropes_in_a_ring("tuvwxyz")
        pair = (tuple("tuvw"), tuple("tzyx"))
        self.assertIs(bars(tailed(), company, MEETING, "t", "q", pair), True)
        for wrong in ((pair[0],), (pair[0][:-1], pair[1]), (pair[0], pair[1][:-1]), (pair[0] + ("x",), pair[1])):
            self.assertIs(bars(tailed(), company, MEETING, "t", "q", wrong), False, wrong)

    def test_whatever_else_they_do(self):
        # two chains that end alike bar, though one of them has passed a post
        posted = lasso(["w"])
        self.assertIs(bars(tailed(), posted, AROUND, "u", "q", (("u",), tuple("uvwxyzu"))), True)
        self.assertIs(bars(tailed(), posted, AROUND, "u", "q", (tuple("uvw"),)), True)
        self.assertIs(bars(tailed(), posted, AROUND, "u", "q", (tuple("uvwx"),)), False)
        # a chain may come round and go on to a post
        company = Company(list("wxyz"), ring_of("wxyz"), ["y"])
        standing = standing_of("wxyz", "abcd")
        for chain in (tuple("wxy"), tuple("wxyzwx"), tuple("wxyzwxy"), tuple("wxyz" * 14 + "wxy")):
            self.assertIs(bars(square(), company, standing, "w", "d", (chain,)), True)
        self.assertIs(bars(square(), company, standing, "w", "d", (tuple("wxyzw"),)), False)

    def test_posts_want_nothing_and_bar(self):
        company = ropes_in_a_row("wxyz", ["w"])
        standing = standing_of("wxyz", "aaaa")
        self.assertIs(bars(square(), company, standing, "w", "b", (("w",),)), True)
        self.assertIs(bars(square(), company, standing, "w", "b", (("w",), ("w",))), False)
        self.assertIs(bars(square(), company, standing, "x", "b", (("x",),)), False)
        self.assertIs(bars(square(), company, standing, "w", "b", (("x",),)), False)

    def test_of_anything(self):
        company = ropes_in_a_row("wxyz", ["z"])
        standing = standing_of("wxyz", "abcd")
        for thing in anything():
            right = tuple("wxyz")
            for handed in (thing, (thing,), (thing, right), (right, thing), (right + (thing,),), ((thing,) + right,)):
                self.assertIs(bars(square(), company, standing, "w", "d", handed), False)


class Refusals(unittest.TestCase):
    def calls(self, standing, folk, room):
        company = ropes_in_a_row("wxyz", ["z"])
        yield lambda: wants(square(), company, standing, folk, room)
        yield lambda: bars(square(), company, standing, folk, room, None)

    def refused(self, error, field, standing, folk, room):
        for call in self.calls(standing, folk, room):
            with self.assertRaises(error) as caught:
                call()
            self.assertIs(type(caught.exception), error)
            self.assertIs(caught.exception.asked, field)

    def test_each_and_which_goes_first(self):
        right = standing_of("wxyz", "abcd")
        for thing in anything():
            self.refused(NoStanding, thing, thing, thing, thing)
            if thing != "z":
                self.refused(NoFolk, thing, right, thing, thing)
            if thing not in ("a", "b"):
                self.refused(NoRoom, thing, right, "w", thing)
                self.refused(NoRoom, thing, right, "z", thing)
        self.refused(NoDoor, "a", right, "w", "a")
        self.refused(NoDoor, "c", right, "w", "c")
        # of a post, too, the door goes ahead
        self.refused(NoDoor, "d", right, "z", "d")

    def test_a_tree_of_rooms(self):
        company = Company(["x"], [])
        for room in "acdef":
            if room not in tree().beside("b"):
                with self.assertRaises(NoDoor):
                    wants(tree(), company, {"x": "b"}, "x", room)


if __name__ == "__main__":
    unittest.main()
