import copy
import unittest

from samples import anything, no_names, ring_of, tangled
from tautropes.company import Company, is_rope_walk
from tautropes.errors import NoFolk, NoPost, NoRope
from tautropes.house import House


def band():
    """A ring of three, a row of two, one alone; one post in each."""
    return Company(list("abcdef"), [("a", "b"), ("b", "c"), ("c", "a"), ("d", "e")], ["f", "d", "a"])


class Refusing(unittest.TestCase):
    def refused(self, error, field, folk, ropes, posts=()):
        kept = copy.deepcopy((folk, ropes, posts))
        with self.assertRaises(error) as caught:
            Company(folk, ropes, posts)
        self.assertIs(type(caught.exception), error)
        told = list(vars(caught.exception).values())
        self.assertEqual(told, [field])
        self.assertIs(type(told[0]), type(field))
        self.assertEqual((folk, ropes, posts), kept)


class Folk(Refusing):
    def test_no_list_and_no_tuple(self):
        for thing in anything():
            if not isinstance(thing, (list, tuple)):
                self.refused(NoFolk, thing, thing, [])

    def test_no_folk(self):
        self.refused(NoFolk, (), [], [])
        self.refused(NoFolk, (), (), None, None)

    def test_what_is_no_name_or_came_ahead(self):
        for thing in no_names():
            self.refused(NoFolk, thing, [thing], [])
            self.refused(NoFolk, thing, ("a", "b", thing, "a"), None, None)
        self.refused(NoFolk, "b", ["a", "b", "b", None], [])
        self.refused(NoFolk, "abcdefghi", ["abcdefgh", "abcdefghi"], [])
        self.assertEqual(Company(["abcdefgh", "a"], []).folk(), ("a", "abcdefgh"))


class Ropes(Refusing):
    def test_no_list_and_no_tuple(self):
        for thing in anything():
            if not isinstance(thing, (list, tuple)):
                self.refused(NoRope, thing, ["a", "b"], thing)

    def test_no_ropes(self):
        self.assertEqual(Company(["a"], []).ropes(), [])
        self.assertEqual(Company(["a"], ()).ropes(), [])

    def test_what_is_no_pair_of_folk(self):
        for thing in anything():
            if thing in (("a", "b"), ["a", "b"]):
                continue
            self.refused(NoRope, thing, ["a", "b", "c"], [thing])
            self.refused(NoRope, thing, ["a", "b", "c"], (("c", "b"), thing, None), None)
            self.refused(NoRope, ("a", thing), ["c", "d", "a"], [("a", "c"), ("a", thing)])
        self.refused(NoRope, ("a", "a"), ["a", "b"], [("a", "a")])
        self.refused(NoRope, ("a",), ["a", "b"], [("a",)])

    def test_a_rope_there_already(self):
        self.refused(NoRope, ("a", "b"), ["a", "b", "c"], [("a", "b"), ("b", "c"), ("a", "b")])
        self.refused(NoRope, ["b", "a"], ["a", "b", "c"], [("a", "b"), ["b", "a"], None])

    def test_three_folk_may_be_roped_each_to_each(self):
        self.assertEqual(Company(list("cab"), ring_of("abc")).ropes(), [("a", "b"), ("a", "c"), ("b", "c")])


class Posts(Refusing):
    def test_no_list_and_no_tuple(self):
        for thing in anything():
            if not isinstance(thing, (list, tuple)):
                self.refused(NoPost, thing, ["a", "b"], [], thing)

    def test_what_is_no_folk(self):
        for thing in no_names() + ["q"]:
            self.refused(NoPost, thing, ["a", "b"], [], [thing])
            self.refused(NoPost, thing, ["a", "b"], [("a", "b")], ("b", thing, "b"))

    def test_a_post_twice(self):
        self.refused(NoPost, "a", ["a", "b"], [], ["a", "a", None])
        self.refused(NoPost, "b", ["a", "b"], [], ("b", "a", "b"))

    def test_folk_then_ropes_then_posts(self):
        self.refused(NoFolk, "A", ["A"], [("A", "A")], ["A"])
        self.refused(NoRope, ("a", "a"), ["a"], [("a", "a")], ["b"])
        self.refused(NoRope, None, ["a"], None, None)

    def test_none_and_all(self):
        self.assertEqual(Company(["a", "b"], []).posts(), ())
        self.assertEqual(Company(["a", "b"], [], []).posts(), ())
        self.assertEqual(Company(["a", "b"], [], ["b", "a"]).posts(), ("a", "b"))
        self.assertEqual(Company(folk=["a", "b"], ropes=[], posts=("b",)).posts(), ("b",))


class Telling(unittest.TestCase):
    def test_all_rise(self):
        ropes = [("b", "a"), ("d", "c"), ("e", "d"), ("c", "b")]
        for folk, handed in tangled("edacb", ropes):
            company = Company(folk, handed, ["e", "a"])
            self.assertEqual(company.folk(), ("a", "b", "c", "d", "e"))
            self.assertEqual(company.ropes(), [("a", "b"), ("b", "c"), ("c", "d"), ("d", "e")])
            self.assertTrue(all(type(rope) is tuple for rope in company.ropes()))
            self.assertEqual(company.posts(), ("a", "e"))
            self.assertEqual([company.roped(folk=one) for one in "ac"], [["b"], ["b", "d"]])

    def test_roped(self):
        self.assertEqual([band().roped(one) for one in "abcdef"],
                         [["b", "c"], ["a", "c"], ["a", "b"], ["e"], ["d"], []])
        for thing in no_names() + ["q"]:
            with self.assertRaises(NoFolk) as caught:
                band().roped(thing)
            self.assertEqual(caught.exception.asked, thing)

    def test_lots(self):
        self.assertEqual(band().lots(), [["a", "b", "c"], ["d", "e"], ["f"]])
        self.assertEqual(Company(["a"], []).lots(), [["a"]])
        self.assertEqual(Company(list("dcba"), [("d", "a"), ("c", "b")]).lots(), [["a", "d"], ["b", "c"]])

    def test_what_is_told_is_the_askers_own(self):
        company = band()
        company.ropes().clear()
        company.roped("a").append("f")
        told = company.lots()
        told[0].clear()
        told.clear()
        self.assertEqual(company.ropes(), band().ropes())
        self.assertEqual(company.roped("a"), ["b", "c"])
        self.assertEqual(company.lots(), band().lots())

    def test_what_is_handed_in_stays_and_may_be_changed_behind(self):
        folk, ropes, posts = ["c", "b", "a"], [["c", "b"], ["b", "a"]], ["c", "a"]
        company = Company(folk, ropes, posts)
        self.assertEqual((folk, ropes, posts), (["c", "b", "a"], [["c", "b"], ["b", "a"]], ["c", "a"]))
        folk.clear()
        ropes[0][0] = "a"
        ropes.pop()
        posts.clear()
        self.assertEqual(company, Company(list("abc"), [("a", "b"), ("b", "c")], ["a", "c"]))
        self.assertEqual(company.roped("c"), ["b"])

    def test_methods_stand_in_the_class_itself(self):
        for name in ("__init__", "__eq__", "folk", "ropes", "posts", "roped", "lots"):
            self.assertIn(name, vars(Company))


class Equality(unittest.TestCase):
    def test_equal_where_folk_ropes_posts_are(self):
        ropes = [("b", "a"), ("d", "c")]
        made = [Company(folk, handed, posts) for folk, handed in tangled("edacb", ropes)
                for posts in (["e", "a"], ("a", "e"))]
        for one in made:
            for other in made:
                self.assertTrue(one == other)
                self.assertFalse(one != other)

    def test_unlike(self):
        company = Company(["a", "b", "c"], [("a", "b")], ["c"])
        for other in (Company(["a", "b"], [("a", "b")]), Company(["a", "b", "c"], [("a", "b")]),
                      Company(["a", "b", "c"], [("a", "b")], ["a"]), Company(["a", "b", "c"], [("a", "c")], ["c"]),
                      Company(["a", "b", "d"], [("a", "b")], ["d"]),
                      Company(["a", "b", "c", "d"], [("a", "b")], ["c"])):
            self.assertFalse(company == other)
            self.assertTrue(company != other)

    def test_nothing_of_another_kind(self):
        company = Company(["a", "b"], [("a", "b")])
        for thing in anything() + [Company, company.folk(), House(["a", "b"], [("a", "b")])]:
            self.assertFalse(company == thing)
            self.assertFalse(thing == company)
            self.assertTrue(company != thing)


class RopeWalks(unittest.TestCase):
    def test_rope_walks(self):
        for walk in (("a",), ("f",), ("a", "b"), ("b", "a", "b"), ("a", "b", "c", "a"), tuple("abc" * 20), ("e", "d")):
            self.assertIs(is_rope_walk(band(), walk), True)
        self.assertIs(is_rope_walk(company=band(), thing=("d", "e")), True)

    def test_no_rope_walks(self):
        for thing in ((), ["a"], ["a", "b"], "ab", "a", {"a": "b"}, ("a", "a"), ("a", "d"), ("a", "q"), ("q",),
                      ("a", ["b"]), (("a", "b"),), ("a", "b", None), tuple("abc" * 20) + ("d",), ("f", "f")):
            self.assertIs(is_rope_walk(band(), thing), False)

    def test_of_anything(self):
        for thing in anything():
            self.assertIs(is_rope_walk(Company(["q", "r"], [("q", "r")]), thing), False)
            self.assertIs(is_rope_walk(Company(["q", "r"], [("q", "r")]), ("q", thing)), False)
            self.assertIs(is_rope_walk(Company(["q", "r"], [("q", "r")]), (thing, "q")), False)


if __name__ == "__main__":
    unittest.main()
