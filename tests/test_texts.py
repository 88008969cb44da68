import random
import unittest

from samples import (all_standings, anything, grid, parts, ropes_in_a_row, small_cases, square, standing_of,
                     two_rings)
from tautropes.company import Company
from tautropes.errors import NoText, NotGone, NotNear, NoPost, NoRope
from tautropes.hall import Hall
from tautropes.house import House
from tautropes.texts import read_hall, show_hall

ROWS = """room a
room b
room c
room d
door a b
door a d
door b c
door c d
folk x
folk y
folk z
rope x y
rope y z
post x
post z
at x a
at y a
at z b
acts
go y b
free z
cut z y
go z c
tie z y
post y
""".split("\n")[:-1]


def hall():
    """The hall of these rows."""
    made = Hall(square(), ropes_in_a_row("xyz", ["x", "z"]), standing_of("xyz", "aab"))
    made.go("y", "b")
    made.free("z")
    made.cut("z", "y")
    made.go("z", "c")
    made.tie("z", "y")
    made.post("y")
    return made


def halls():
    """Halls of all kinds, with acts and without."""
    chance = random.Random(32)
    for house, company in small_cases() + [(two_rings(), Company(list("vwxyz"), [])), (parts(), Company(["x"], []))]:
        made = Hall(house, company, chance.choice(all_standings(house, company)))
        yield made
        for _ in range(60):
            one, other = chance.choice(company.folk()), chance.choice(company.folk())
            calls = [(made.go, (one, chance.choice(house.rooms())))] * 4
            calls += [(made.tie, (one, other)), (made.cut, (one, other)), (made.post, (one,)), (made.free, (one,))]
            call, names = chance.choice(calls)
            try:
                call(*names)
            except (NotGone, NoRope, NoPost, NotNear):
                pass
        yield made


class Reading(unittest.TestCase):
    def no_text(self, row, thing):
        with self.assertRaises(NoText) as caught:
            read_hall(thing)
        self.assertIs(type(caught.exception), NoText)
        self.assertEqual(caught.exception.row, row, thing)
        self.assertIs(type(caught.exception.row), int)

    def no_rows(self, row, rows):
        self.no_text(row, "\n".join(rows))


class Shown(Reading):
    def test_row_by_row(self):
        self.assertEqual(show_hall(hall=hall()), "\n".join(ROWS))
        self.assertEqual(read_hall(text="\n".join(ROWS)), hall())

    def test_without_acts(self):
        made = Hall(House(["b", "a"], []), Company(["y"], []), {"y": "b"})
        self.assertEqual(show_hall(made), "room a\nroom b\nfolk y\nat y b\nacts")
        self.assertEqual(read_hall("room a\nroom b\nfolk y\nat y b\nacts"), made)

    def test_its_first_company_and_standing_and_no_act_taken_back(self):
        made = hall()
        made.back()
        made.back()
        self.assertEqual(show_hall(made), "\n".join(ROWS[:-2]))
        made.on()
        self.assertEqual(show_hall(made), "\n".join(ROWS[:-1]))

    def test_each_sort_rises(self):
        house = House(["c", "aa", "b", "a"], [("c", "b"), ("b", "aa"), ("a", "c")])
        company = Company(["q", "pp", "p"], [("q", "p"), ("pp", "p")], ["q", "p"])
        made = Hall(house, company, {"q": "b", "p": "c", "pp": "c"})
        self.assertEqual(show_hall(made).split("\n"), [
            "room a", "room aa", "room b", "room c", "door a c", "door aa b", "door b c", "folk p", "folk pp", "folk q",
            "rope p pp", "rope p q", "post p", "post q", "at p c", "at pp c", "at q b", "acts"])
        self.assertEqual(read_hall(show_hall(made)), made)

    def test_all_kinds_read_back(self):
        many = 0
        for made in halls():
            text = show_hall(made)
            self.assertIs(type(text), str)
            again = read_hall(text)
            self.assertIs(type(again), Hall)
            self.assertEqual(again, made)
            self.assertEqual(show_hall(again), text)
            self.assertEqual((again.company_at(), again.standing_at(), again.acts(), again.house(), again.often()),
                             (made.company_at(), made.standing_at(), made.acts(), made.house(), made.often()))
            self.assertEqual(show_hall(made), text)
            many += len(made.acts())
        self.assertTrue(many > 100)

    def test_ropes_tied_and_cut_either_way_about(self):
        made = Hall(square(), Company(["x", "y"], []), {"x": "a", "y": "b"})
        made.tie("y", "x")
        made.cut("x", "y")
        made.tie("x", "y")
        self.assertEqual(show_hall(made).split("\n")[-4:], ["acts", "tie y x", "cut x y", "tie x y"])
        self.assertEqual(read_hall(show_hall(made)).acts(), made.acts())


class TooSoon(Reading):
    def test_at_each_row(self):
        for number in range(len(ROWS)):
            if number <= ROWS.index("acts"):
                self.no_rows(number, ROWS[:number])
                self.no_rows(number, ROWS[:number] + [""])
            else:
                self.assertEqual(len(read_hall("\n".join(ROWS[:number])).acts()), number - ROWS.index("acts") - 1)

    def test_within_a_row(self):
        text = "\n".join(ROWS)
        ends = [len("\n".join(ROWS[:number])) for number in range(ROWS.index("acts") + 1, len(ROWS) + 1)]
        for end in range(len(text)):
            if end not in ends:
                # cut off in a word, or behind a line feed: that row can't stand, or else the next is missing
                whole = text[:end].count("\n")
                row = text[:end].split("\n")[-1]
                self.no_text(whole + 1 if row == ROWS[whole] else whole, text[:end])

    def test_a_short_one(self):
        self.no_text(0, "")
        self.no_text(1, "room a")
        self.no_text(1, "room a\n")
        self.no_text(2, "room a\nfolk x")
        self.no_text(3, "room a\nfolk x\nat x a")
        self.no_text(3, "room a\nfolk x\nat x a\n")
        alone = Hall(House(["a"], []), Company(["x"], []), {"x": "a"})
        self.assertEqual(read_hall("room a\nfolk x\nat x a\nacts"), alone)
        self.no_text(4, "room a\nfolk x\nat x a\nacts\n")


class Rows(Reading):
    def test_two_exchanged(self):
        other = []
        for number in range(len(ROWS) - 1):
            rows = ROWS[:number] + [ROWS[number + 1], ROWS[number]] + ROWS[number + 2:]
            try:
                self.assertEqual(show_hall(read_hall("\n".join(rows))), "\n".join(rows))
                other.append(number)
            except NoText as caught:
                self.assertIn(caught.row, (number, number + 1))
        # acts that can be done in either order
        self.assertEqual(other, [19, 20, 21, 22, 23])

    def test_which_of_two_exchanged(self):
        self.no_rows(1, ["room b", "room a"] + ROWS[2:])
        self.no_rows(5, ROWS[:4] + ["door a d", "door a b"] + ROWS[6:])
        self.no_rows(4, ROWS[:3] + ["door a b", "room d"] + ROWS[5:])
        self.no_rows(8, ROWS[:7] + ["folk x", "door c d"] + ROWS[9:])
        self.no_rows(9, ROWS[:8] + ["folk y", "folk x"] + ROWS[10:])
        self.no_rows(11, ROWS[:10] + ["rope x y", "folk z"] + ROWS[12:])
        self.no_rows(12, ROWS[:11] + ["rope y z", "rope x y"] + ROWS[13:])
        self.no_rows(13, ROWS[:12] + ["post x", "rope y z"] + ROWS[14:])
        self.no_rows(14, ROWS[:13] + ["post z", "post x"] + ROWS[15:])
        self.no_rows(15, ROWS[:14] + ["at x a", "post z"] + ROWS[16:])
        self.no_rows(15, ROWS[:15] + ["at y a", "at x a"] + ROWS[17:])
        self.no_rows(16, ROWS[:16] + ["at z b", "at y a"] + ROWS[18:])
        self.no_rows(17, ROWS[:17] + ["acts", "at z b"] + ROWS[19:])
        self.no_rows(18, ROWS[:18] + ["go y b", "acts"] + ROWS[20:])
        self.no_rows(21, ROWS[:21] + ["tie z y", "cut z y"] + ROWS[23:])
        self.no_rows(19, ROWS[:19] + ["go z c", "free z"] + ROWS[21:])

    def test_a_row_twice(self):
        for number in range(len(ROWS)):
            self.no_rows(number + 1, ROWS[:number + 1] + ROWS[number:])

    def test_a_row_out(self):
        wrong = {0: 3, 1: 3, 2: 5, 3: 4, 8: 10, 9: 10, 10: 11, 15: 15, 16: 16, 17: 17, 18: 18}
        for number, row in wrong.items():
            self.no_rows(row, ROWS[:number] + ROWS[number + 1:])
        # without a door, a rope or a post it is another hall's text
        self.assertEqual(read_hall("\n".join(ROWS[:13] + ROWS[14:])).company_at(0).posts(), ("z",))
        less = read_hall("\n".join(ROWS[:5] + ROWS[6:]))
        self.assertEqual(less.house().doors(), [("a", "b"), ("b", "c"), ("c", "d")])
        self.no_rows(20, ROWS[:12] + ROWS[13:])

    def test_blanks(self):
        for number, row in enumerate(ROWS):
            for other in (row + " ", " " + row, row.replace(" ", "  ", 1), row.replace(" ", "", 1),
                          row.replace(" ", "\n", 1), row.replace(" ", "~", 1)):
                if other != row:
                    self.no_rows(number, ROWS[:number] + [other] + ROWS[number + 1:])

    def test_a_line_feed_more(self):
        text = "\n".join(ROWS)
        self.no_text(len(ROWS), text + "\n")
        self.no_text(0, "\n" + text)
        for number in range(1, len(ROWS)):
            self.no_rows(number, ROWS[:number] + [""] + ROWS[number:])

    def test_words_more_or_fewer(self):
        for number, row in enumerate(ROWS):
            for other in (row + " a", row + " x", row + " x a", row.split(" ")[0] if " " in row else "", row[0],
                          row.upper(), row + "x y", "rooms" + row[4:], row[1:]):
                self.no_rows(number, ROWS[:number] + [other] + ROWS[number + 1:])

    def test_words_that_are_none(self):
        for number in range(len(ROWS)):
            for row in ("", " ", "acts a", "act", "ACTS", "standing", "say x", "a", "x", "go", "go x", "go x a b",
                        "tie x", "post", "post x y", "free", "room", "at", "at x", "rope x", "door a", "go go go",
                        "house", "# room a", "door  a c", "room A", "room a1", "room abcdefghi", "folk abcdefghi",
                        "folk X", "room a,", "{}"):
                self.no_rows(number, ROWS[:number] + [row] + ROWS[number:])

    def test_long_names(self):
        text = "room abcdefgh\nroom b\ndoor abcdefgh b\nfolk zyxwvuts\nat zyxwvuts b\nacts\ngo zyxwvuts abcdefgh"
        self.assertEqual(show_hall(read_hall(text)), text)
        self.no_text(0, text.replace("abcdefgh", "abcdefghi"))
        self.no_text(3, text.replace("zyxwvuts", "zyxwvutsr"))


class Refused(Reading):
    """By what the house, the company, the standing, the act refuse."""

    def put(self, number, row):
        return ROWS[:number] + [row] + ROWS[number + 1:]

    def test_house(self):
        for row in ("room a", "room A", "room", "room b b"):
            self.no_rows(1, self.put(1, row))
        for row in ("door a a", "door b a", "door a q", "door q a", "door a", "door a b c", "door A b"):
            self.no_rows(4, self.put(4, row))
        self.no_rows(5, self.put(5, "door a b"))
        # by this door three rooms have doors each to each, though one could be out
        self.no_rows(7, ROWS[:4] + ["door a b", "door a c", "door a d", "door b c", "door b d"] + ROWS[8:])
        self.no_rows(5, ["room a", "room b", "room c", "door a b", "door a c", "door b c", "nothing"])
        self.no_rows(0, ROWS[4:])
        self.no_rows(0, ROWS[8:])

    def test_company(self):
        self.no_rows(8, ROWS[:8] + ROWS[11:])
        self.no_rows(9, self.put(9, "folk x"))
        self.no_rows(9, self.put(9, "folk w"))
        for row in ("rope x x", "rope y x", "rope x q", "rope a b", "rope x", "rope x y z"):
            self.no_rows(11, self.put(11, row))
        self.no_rows(12, self.put(12, "rope x y"))
        for row in ("post q", "post a", "post x y", "post"):
            self.no_rows(13, self.put(13, row))
        self.no_rows(14, self.put(14, "post x"))
        # three folk may be roped each to each
        rows = ROWS[:12] + ["rope x z", "rope y z"] + ROWS[13:19]
        self.assertEqual(len(read_hall("\n".join(rows)).company_at().ropes()), 3)

    def test_standing(self):
        for row in ("at x q", "at y a", "at q a", "at a x", "at x", "at x a b", "at", "at x x"):
            self.no_rows(15, self.put(15, row))
        self.no_rows(16, self.put(16, "at y c"))
        self.no_rows(17, self.put(17, "at z c"))
        self.no_rows(18, ROWS[:18] + ["at z b"] + ROWS[18:])

    def test_an_at_row_is_held_against_roped_folk_ahead_of_it_alone(self):
        # x and y are both roped to z, not to one another: where z can't stand its own row is wrong
        head = ["room a", "room b", "room c", "room d", "room e", "door a b", "door b c", "door c d", "door d e",
                "folk x", "folk y", "folk z", "rope x z", "rope y z"]
        self.no_rows(16, head + ["at x a", "at y e", "at z b", "acts"])
        self.no_rows(16, head + ["at x a", "at y e", "at z q", "acts"])
        self.no_rows(16, head + ["at x a", "at y c", "at z a", "acts"])
        self.no_rows(16, head + ["at x a", "at y e"])
        self.assertEqual(read_hall("\n".join(head + ["at x a", "at y c", "at z b", "acts"])).standing_at(),
                         standing_of("xyz", "acb"))
        # of one that no rope holds any room is right
        self.no_rows(17, head[:-1] + ["at x a", "at y e", "at z b", "acts", "go y c"])
        # ahead of ropes and posts that are never told
        self.no_rows(12, head[:12] + ["acts"])

    def test_acts(self):
        for row in ("go y c", "go x b", "go y q", "go q b", "go b y", "go y a", "tie x y", "tie y y", "tie x q",
                    "cut x z", "cut x x", "post x", "post q", "free y", "free q", "go z c", "go y", "free x y",
                    "at y b", "room e", "acts", "", "back", "on"):
            self.no_rows(19, ROWS[:19] + [row])
            self.no_rows(19, ROWS[:19] + [row] + ROWS[19:])
        # far from one another
        self.no_rows(23, ROWS[:22] + ["go z c", "tie x z"])
        self.assertEqual(read_hall("\n".join(ROWS[:22] + ["tie x z"])).company_at().ropes(), [("x", "y"), ("x", "z")])
        self.no_rows(23, ROWS[:23] + ["tie y x"])
        self.no_rows(25, ROWS + ["go y a"])

    def test_an_act_is_held_against_those_ahead_alone(self):
        self.no_rows(20, ROWS[:19] + ["go y b", "go z c", "free z", "cut z y"])
        self.assertEqual(len(read_hall("\n".join(ROWS[:19] + ["free z", "go y b", "cut z y", "go z c"])).acts()), 4)

    def test_what_is_no_text(self):
        for thing in anything():
            self.no_text(0, thing)
        for thing in (ROWS, tuple(ROWS), {0: "room a"}, hall().acts(), 3, None):
            self.no_text(0, thing)


class Big(Reading):
    def test_forty_rooms_eighty_doors_and_long_histories(self):
        names = [one + other for one in "abcdefgh" for other in "vwxyz"]
        doors = [(names[k], names[(k + turn) % 20 + 20]) for k in range(20) for turn in (0, 1, 7, 12)]
        folk = list("abcdefghijkl")
        made = Hall(House(names, doors), Company(folk, [(one, two) for one in folk[:2] for two in folk[2:]]),
                    {who: "av" for who in folk})
        for turn in range(300):
            who = folk[turn % 12]
            made.go(who, made.house().beside(made.standing_at()[who])[0])
        self.assertEqual(len(made.house().doors()), 80)
        self.assertEqual(read_hall(show_hall(made)), made)

    def test_grids(self):
        made = Hall(grid(), ropes_in_a_row("xyz"), standing_of("xyz", "abc"))
        self.assertEqual(show_hall(made).count("\n"), 6 + 7 + 3 + 2 + 3)
        self.assertEqual(read_hall(show_hall(made)), made)


if __name__ == "__main__":
    unittest.main()
