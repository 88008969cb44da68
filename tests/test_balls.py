import unittest

from samples import (anything, houses, many_rooms, one_room, parts, ring_of, ropes_in_a_ring, shrunk_walks, square,
                     tree, two_hubs, two_rings)
from tautropes.balls import ball
from tautropes.company import Company
from tautropes.errors import NoRoom, TooMany
from tautropes.folds import is_fold
from tautropes.house import House
from tautropes.lots import lots
from tautropes.spelling import spare_doors
from tautropes.ways import is_led

NAMES = list("abcdefghijklmnopqrstuvwxyz") + ["a" + sign for sign in "abcdefghijklmn"]


def star(many):
    """A room m with a door to each of so many others."""
    names = [one + other for one in "abcdefgh" for other in "vwxyz"][:many]
    return House(["m"] + names, [("m", name) for name in names])


def plain_walks(house, room, steps):
    """All shrunk walks from a room of at most so many steps, by their steps, then rising."""
    found = [walk for end in house.rooms() for walk in shrunk_walks(house, room, end, steps)]
    return sorted(found, key=lambda walk: (len(walk), walk))


class Balls(unittest.TestCase):
    def test_held_against_a_plain_listing(self):
        for house in houses():
            for room in house.rooms():
                for steps in range(7):
                    walks = plain_walks(house, room, steps)
                    if len(walks) > 40:
                        self.too_many(house, room, steps)
                        continue
                    told = ball(house, room, steps)
                    self.assertIs(type(told), tuple)
                    made, over = told
                    self.assertIs(type(made), House)
                    self.assertEqual(over, dict(zip(NAMES, walks)))
                    self.assertEqual(made.rooms(), tuple(sorted(NAMES[:len(walks)])))
                    self.assertEqual(made.doors(), self.plain_doors(over))

    def plain_doors(self, over):
        return sorted((min(one, other), max(one, other)) for one in over for other in over
                      if over[one] == over[other][:-1])

    def too_many(self, house, room, steps):
        with self.assertRaises(TooMany) as caught:
            ball(house, room, steps)
        self.assertIs(type(caught.exception), TooMany)
        self.assertEqual(caught.exception.most, 40)

    def test_no_steps(self):
        self.assertEqual(ball(house=square(), room="c", steps=0), (House(["a"], []), {"a": ("c",)}))
        self.assertEqual(ball(one_room(), "a", 6), (House(["a"], []), {"a": ("a",)}))

    def test_a_tree_is_its_own_ball(self):
        made, walks = ball(tree(), "b", 3)
        self.assertEqual(walks, {"a": ("b",), "b": ("b", "a"), "c": ("b", "c"), "d": ("b", "d"), "e": tuple("bde"),
                                 "f": tuple("bdef")})
        self.assertEqual(made.doors(), [("a", "b"), ("a", "c"), ("a", "d"), ("d", "e"), ("e", "f")])
        self.assertEqual(ball(tree(), "b", 6), (made, walks))
        self.assertIs(is_fold(made, tree(), {room: walks[room][-1] for room in walks}), True)

    def test_a_ring(self):
        made, walks = ball(square(), "d", 6)
        self.assertEqual(len(walks), 13)
        self.assertEqual(walks["l"], tuple("dabcdab"))
        self.assertEqual(walks["m"], tuple("dcbadcb"))
        self.assertEqual(made.steps("l", "m"), 12)
        self.assertEqual(len(made.doors()), 12)

    def test_exactly_forty_and_one_more(self):
        made, walks = ball(star(39), "m", 1)
        self.assertEqual(len(made.rooms()), 40)
        self.assertEqual(list(walks), NAMES)
        self.assertEqual(walks["an"], ("m", "hy"))
        self.assertEqual(walks["aa"], ("m", "fv"))
        self.assertEqual(made.beside("a"), sorted(NAMES[1:]))
        self.assertEqual(ball(star(39), "m", 6), (made, walks))
        self.too_many(star(40), "m", 1)
        self.too_many(star(40), "m", 6)
        self.assertEqual(len(ball(star(40), "m", 0)[1]), 1)
        # from a room of the star all are two steps away at most
        self.assertEqual(len(ball(star(39), "av", 2)[1]), 40)
        self.too_many(star(40), "av", 2)

    def test_the_fortieth_behind_several_steps(self):
        # one row of rooms by which just forty walks are told, and one more door at its end
        rooms = ["r" + sign for sign in "abcdef"] + ["s" + sign for sign in "abcdefghijklmnopqrstuvwxyz"]
        rooms += ["t" + sign for sign in "abcdefghi"]
        doors = list(zip(rooms[:6], rooms[1:6])) + [("rf", room) for room in rooms[6:]]
        house = House(rooms[:-1], doors[:-1])
        self.assertEqual(len(ball(house, "ra", 6)[1]), 40)
        self.too_many(House(rooms, doors), "ra", 6)
        self.assertEqual(len(ball(House(rooms, doors), "ra", 5)[1]), 6)

    def test_far_more(self):
        for house in (two_hubs(), many_rooms()):
            for room in house.rooms()[-2:]:
                self.too_many(house, room, 6)

    def test_whatever_stands_in_it_is_led_to_whatever_else(self):
        made, _ = ball(two_rings(), "a", 3)
        self.assertEqual(spare_doors(made), [])
        self.assertEqual(len(lots(made, Company(["x", "y"], [("x", "y")]))), 1)
        small, _ = ball(square(), "a", 3)
        told = [dict(zip("wxyz", rooms)) for rooms in ("abac", "gece", "acac", "bddb", "ffff")]
        for one in told:
            for other in told:
                self.assertIs(is_led(small, ropes_in_a_ring("wxyz"), one, other), True)

    def test_rooms_of_longer_names(self):
        house = House(["kitchen", "abcdefgh", "b"], [("kitchen", "b"), ("b", "abcdefgh")])
        self.assertEqual(ball(house, "b", 1)[1], {"a": ("b",), "b": ("b", "abcdefgh"), "c": ("b", "kitchen")})

    def test_what_is_no_room_goes_ahead(self):
        for thing in anything() + ["q", ["m"], ("m",)]:
            for steps in (0, 6):
                with self.assertRaises(NoRoom) as caught:
                    ball(star(40), thing, steps)
                self.assertIs(type(caught.exception), NoRoom)
                self.assertIs(caught.exception.asked, thing)

    def test_told_anew(self):
        made, walks = ball(square(), "a", 2)
        kept = dict(walks)
        walks.clear()
        self.assertEqual(ball(square(), "a", 2), (made, kept))
        self.assertIsNot(ball(square(), "a", 2)[0], made)

    def test_parts_and_rings(self):
        self.assertEqual(len(ball(parts(), "v", 6)[1]), 1)
        self.assertEqual(sorted(ball(parts(), "x", 6)[1].values()), [("x",), ("x", "y"), ("x", "y", "z")])
        self.assertEqual(len(ball(House(list("abcdef"), ring_of("abcdef")), "c", 6)[1]), 13)


if __name__ == "__main__":
    unittest.main()
