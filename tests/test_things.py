"""Things: what is made, the places of doors, and what fits [2, 23]."""

import copy
import random
import unittest

from tests import samples, slow
from tests.samples import STRANGE, box, changed, net_of, paths, same, turned
from tests.slow import HOUSE, TWO, cells, chance_opening, chance_thing, misfits, names, place_cells
from wallplan.rooms import rooms
from wallplan.things import first_misfit, is_thing, places, room_of

MOST = 10 ** 6


class IsThingTest(unittest.TestCase):
    def check(self, thing, expected):
        for _ in range(2):
            self.assertIs(is_thing(thing), expected, thing)

    def test_the_least_and_the_greatest_numbers(self):
        for x in (0, 1, MOST):
            for y in (0, 1, MOST):
                for w in (1, 2, MOST):
                    for h in (1, 2, MOST):
                        self.check(("a", x, y, w, h), True)
        for x in (-1, MOST + 1, 10 ** 30):
            self.check(("a", x, 0, 1, 1), False)
            self.check(("a", 0, x, 1, 1), False)
        for w in (0, -1, MOST + 1, 10 ** 30):
            self.check(("a", 0, 0, w, 1), False)
            self.check(("a", 0, 0, 1, w), False)

    def test_names(self):
        for name in ("a", "z", "bed", "abcdefgh"):
            self.check((name, 0, 0, 1, 1), True)
        for name in ("", "abcdefghi", "A", "a1", "a b", " a", "a\n", "a;", None, 0, True, ("a",), ["a"], b"a"):
            self.check((name, 0, 0, 1, 1), False)

    def test_parts_more_or_fewer(self):
        thing = ("a", 0, 0, 1, 1)
        for other in (thing[:4], thing[1:], thing + (1,), list(thing), (thing,), [thing], thing + thing):
            self.check(other, False)

    def test_anything(self):
        for thing in STRANGE:
            self.check(thing, False)

    def test_strange_things_in_each_place(self):
        thing = ("a", 1, 1, 1, 1)
        for path in paths(thing):
            for other in STRANGE:
                good = same(other, "ab") and path == (0,) or same(other, 1) and path not in ((), (0,))
                self.check(changed(thing, path, other), good)

    def test_nothing_is_changed(self):
        for thing in (["a", 1, 1, 1, 1], ("a", [1], 1, 1, 1)):
            before = copy.deepcopy(thing)
            is_thing(thing)
            self.assertTrue(same(thing, before))


class PlacesTest(unittest.TestCase):
    def check(self, net, door, expected):
        """So it is, and so in all turned."""
        for _ in range(2):
            self.assertTrue(same(places(net, door), expected))
        x, y, w, h = expected
        self.assertTrue(same(places(turned(net), door), (y, x, h, w)))

    def test_upright_and_level_from_either_end(self):
        net = net_of([(30, 20, 30, 50)])
        self.check(net, ("a", "door", (0, 1), 0, 4, 5), (25, 24, 10, 5))
        self.check(net, ("a", "door", (0, 1), 1, 4, 5), (25, 41, 10, 5))
        self.check(net, ("a", "door", (0, 1), 1, 0, 30), (0, 20, 60, 30))
        self.check(net, ("a", "door", (0, 1), 0, 0, 1), (29, 20, 2, 1))

    def test_from_0_on(self):
        for x, expected in ((0, (0, 24, 5, 5)), (1, (0, 24, 6, 5)), (4, (0, 24, 9, 5)), (5, (0, 24, 10, 5)),
                            (6, (1, 24, 10, 5))):
            self.check(net_of([(x, 20, x, 50)]), ("a", "door", (0, 1), 0, 4, 5), expected)

    def test_beyond_the_farthest_spots(self):
        net = net_of([(MOST, 0, MOST, MOST)])
        self.check(net, ("a", "door", (0, 1), 0, 0, MOST), (0, 0, 2 * MOST, MOST))
        self.check(net, ("a", "door", (0, 1), 1, 0, 7), (MOST - 7, MOST - 7, 14, 7))

    def test_as_cell_by_cell(self):
        for net, _, openings, _ in slow.chance_plans():
            for opening in openings:
                if opening[1] == "door":
                    self.assertEqual(cells(*places(net, opening)), place_cells(net, opening))


class RoomOfTest(unittest.TestCase):
    def check(self, net, oblong, expected):
        for _ in range(2):
            self.assertTrue(same(room_of(net, ("a", *oblong)), expected), oblong)
        x, y, w, h = oblong
        # In all turned the rooms may be numbered otherwise.
        self.assertEqual(room_of(turned(net), ("a", y, x, h, w)) is None, expected is None, oblong)

    def test_all_cells_of_one_room(self):
        self.check(TWO, (0, 0, 5, 8), 0)
        self.check(TWO, (5, 0, 7, 8), 1)
        self.check(TWO, (4, 7, 1, 1), 0)
        self.check(TWO, (5, 7, 1, 1), 1)
        self.check(TWO, (11, 0, 1, 8), 1)

    def test_across_a_wall(self):
        for oblong in ((0, 0, 6, 8), (4, 0, 2, 1), (0, 0, 12, 8), (4, 3, 3, 2), (0, 0, 5, 9), (11, 7, 1, 2),
                       (10, 0, 3, 1)):
            self.check(TWO, oblong, None)

    def test_outside(self):
        for oblong in ((12, 0, 1, 1), (0, 8, 1, 1), (20, 20, 3, 3), (12, 0, MOST, MOST), (0, 8, MOST, 1)):
            self.check(TWO, oblong, None)
        self.check(samples.EMPTY, (0, 0, 1, 1), None)
        self.check(samples.EMPTY, (MOST, MOST, MOST, MOST), None)

    def test_a_room_round_about_by_the_oblong(self):
        net = net_of(box(3, 3, 6, 6))
        self.check(net, (0, 0, 20, 20), None)
        self.check(net, (3, 3, 3, 3), 0)
        self.check(net, (2, 3, 4, 3), None)

    def test_a_wall_that_ends_within_or_at_the_rim(self):
        # A wall from the west one to (4, 5) in a room of 10 times 10.
        net = net_of([(0, 0, 10, 0), (0, 10, 10, 10), (0, 0, 0, 5), (0, 5, 0, 10), (10, 0, 10, 10), (0, 5, 4, 5)])
        self.check(net, (0, 0, 10, 10), None)
        self.check(net, (3, 4, 2, 2), None)
        self.check(net, (3, 4, 7, 6), None)
        self.check(net, (4, 0, 6, 10), 0)
        self.check(net, (4, 4, 2, 2), 0)
        self.check(net, (0, 0, 10, 5), 0)
        self.check(net, (0, 5, 10, 5), 0)
        self.check(net, (0, 4, 10, 6), None)

    def test_a_wall_across_that_has_no_spot_within(self):
        # The oblong is one cell wide, so no spot lies within it, but the wall at y = 5 goes across.
        net = net_of(box(0, 0, 10, 10) + [(2, 5, 8, 5)])
        self.check(net, (4, 4, 1, 2), None)
        self.check(net, (2, 4, 1, 2), None)
        self.check(net, (1, 4, 1, 2), 0)
        self.check(net, (8, 4, 1, 2), 0)
        self.check(net, (7, 4, 1, 2), None)

    def test_a_part_that_stands_alone_within(self):
        net = net_of(box(0, 0, 20, 20) + box(5, 5, 8, 8) + [(12, 12, 12, 13)])
        self.check(net, (0, 0, 20, 20), None)
        self.check(net, (4, 4, 5, 5), None)
        self.check(net, (5, 5, 3, 3), 1)
        self.check(net, (8, 0, 4, 20), 0)
        self.check(net, (8, 0, 5, 20), None)
        self.check(net, (12, 12, 1, 1), 0)
        self.check(net, (11, 12, 2, 1), None)
        self.check(net, (11, 11, 2, 1), 0)
        self.check(net, (11, 13, 2, 1), 0)
        self.check(net, (11, 11, 2, 2), None)

    def test_very_great_things(self):
        net = net_of(box(0, 0, MOST, MOST))
        self.check(net, (0, 0, MOST, MOST), 0)
        self.check(net, (1, 0, MOST, MOST), None)
        self.check(net, (0, 1, MOST, MOST), None)
        self.check(net, (1, 1, MOST - 1, MOST - 1), 0)
        self.check(net, (MOST, 0, MOST, MOST), None)
        post = net_of(box(0, 0, MOST, MOST) + [(MOST - 1, MOST - 1, MOST - 1, MOST - 2)])
        self.check(post, (0, 0, MOST, MOST), None)
        self.check(post, (0, 0, MOST - 1, MOST), 0)
        self.check(post, (0, 0, MOST, MOST - 2), 0)

    def test_as_cell_by_cell(self):
        chance = random.Random(4)
        answers = {}
        for net, _, _, _ in slow.chance_plans():
            for _ in range(30):
                thing = chance_thing(chance, net, "a")
                expected = slow.room_of(net, thing)
                answers[expected] = answers.get(expected, 0) + 1
                self.assertTrue(same(room_of(net, thing), expected), (net, thing))
        self.assertGreater(answers[0], 100)
        self.assertGreater(answers[2], 20)
        self.assertGreater(answers[None], 100)


class FirstMisfitTest(unittest.TestCase):
    def check(self, net, openings, things, expected):
        for _ in range(2):
            self.assertTrue(same(first_misfit(net, openings, things), expected), things)
        self.assertEqual(min(misfits(net, openings, things), default=None), expected)

    def test_none(self):
        self.check(samples.EMPTY, (), (), None)
        self.check(TWO, (), (), None)
        self.check(TWO, HOUSE[2], HOUSE[3], None)

    def test_in_no_room(self):
        for oblong in ((4, 0, 2, 1), (12, 0, 1, 1), (0, 8, 3, 1)):
            self.check(TWO, (), (("a", *oblong),), "a")

    def test_two_that_touch_and_two_that_have_a_cell_in_common(self):
        one = ("a", 6, 3, 2, 2)
        for oblong, good in (
            ((8, 3, 2, 2), True), ((7, 3, 2, 2), False), ((6, 5, 2, 2), True), ((6, 4, 2, 2), False),
            ((5, 3, 1, 2), True), ((5, 3, 2, 2), False), ((6, 1, 2, 2), True), ((6, 2, 2, 2), False),
            ((8, 5, 1, 1), True), ((7, 4, 1, 1), False), ((5, 1, 6, 6), False), ((6, 3, 2, 2), False),
            ((6, 3, 1, 1), False), ((5, 2, 1, 1), True), ((8, 2, 1, 1), True), ((5, 4, 7, 1), False),
            ((7, 0, 1, 8), False),
        ):
            other = ("b", *oblong)
            self.check(TWO, (), (one, other), None if good else "a")
            # Both don't fit.
            self.check(TWO, (), (("a",) + other[1:], ("b",) + one[1:]), None if good else "a")

    def test_places_of_doors_on_both_sides(self):
        # The door's places go from (3, 3) to below (7, 5).
        door = ("a", "door", (2, 3), 2, 3, 2)
        for oblong, good in (
            ((2, 3, 1, 2), True), ((3, 3, 1, 1), False), ((4, 4, 1, 1), False), ((3, 5, 2, 1), True),
            ((3, 2, 2, 1), True),
            ((6, 4, 1, 1), False), ((7, 3, 1, 2), True), ((5, 2, 7, 1), True), ((5, 5, 7, 3), True),
            ((5, 3, 1, 1), False),
            ((0, 0, 5, 8), False), ((6, 0, 6, 8), False), ((7, 0, 5, 8), True), ((0, 0, 3, 8), True),
        ):
            self.check(TWO, (door,), (("a", *oblong),), None if good else "a")

    def test_a_window_has_no_places(self):
        window = ("a", "window", (2, 3), 2, 3, 2)
        for oblong in ((3, 3, 1, 1), (4, 4, 1, 1), (0, 0, 5, 8), (5, 0, 7, 8)):
            self.check(TWO, (window,), (("a", *oblong),), None)

    def test_places_of_a_door_beyond_a_wall(self):
        # The door in the west wall is 7 wide, so its places go as far as to x = 7, beyond the wall at 5.
        door = ("a", "door", (0, 1), 1, 0, 7)
        self.check(TWO, (door,), (("a", 6, 1, 1, 1),), "a")
        self.check(TWO, (door,), (("a", 7, 1, 1, 7),), None)
        self.check(TWO, (door,), (("a", 5, 0, 1, 1),), None)

    def test_the_first_by_names(self):
        things = (("a", 0, 0, 1, 1), ("b", 5, 0, 2, 2), ("ba", 4, 0, 2, 1), ("c", 12, 0, 1, 1))
        self.check(TWO, (), things, "b")
        self.check(TWO, (), things[:1] + (("b", 8, 0, 2, 2),) + things[2:], "ba")
        self.check(TWO, (), things[:2] + things[3:], "c")
        self.check(TWO, (("z", "door", (0, 2), 0, 0, 1),), things, "a")

    def test_very_great_things(self):
        net = net_of(box(0, 0, MOST, MOST))
        for one, other, expected in (
            ((0, 0, MOST, 500), (0, 500, MOST, MOST - 500), None), ((0, 0, MOST, 501), (0, 500, MOST, 7), "a"),
            ((0, 0, MOST, MOST), (MOST - 1, MOST - 1, 1, 1), "a"), ((0, 0, 9, MOST), (9, 0, MOST - 9, MOST), None),
            ((0, 0, 9, MOST), (9, 0, MOST, MOST), "b"),
        ):
            self.assertEqual(first_misfit(net, (), (("a", *one), ("b", *other))), expected)
        door = ("z", "door", (0, 1), 0, 0, MOST)
        self.assertEqual(first_misfit(net, (door,), (("a", MOST - 1, MOST - 1, 1, 1),)), "a")

    def test_thirty(self):
        net = net_of(box(0, 0, 30, 1))
        things = tuple((name, k, 0, 1, 1) for k, name in enumerate(names(30)))
        self.check(net, (), things, None)
        self.check(net, (), things[:29] + ((things[29][0], 0, 0, 1, 1),), things[0][0])

    def test_as_cell_by_cell(self):
        chance = random.Random(5)
        answers = {"none": 0, "some": 0}
        for net, _, openings, things in slow.chance_plans():
            if rooms(net):
                free = [name for name in names(60) if name not in [thing[0] for thing in things]]
                for more in (chance_thing(chance, net, chance.choice(free)), None):
                    told = tuple(sorted(things + ((more,) if more else ())))
                    expected = min(misfits(net, openings, told), default=None)
                    answers["none" if expected is None else "some"] += 1
                    self.check(net, openings, told, expected)
                door = chance_opening(chance, net, "zz")
                if not slow.fallen(net, openings + (door,)):
                    self.check(net, openings + (door,), things,
                               min(misfits(net, openings + (door,), things), default=None))
        self.assertGreater(min(answers.values()), 20, answers)

    def test_nothing_is_changed(self):
        before = copy.deepcopy(HOUSE)
        first_misfit(*HOUSE[:1], *HOUSE[2:])
        self.assertTrue(same(HOUSE, before))
