"""Openings: what is made, what stands, and how they ride [2, 21, 22]."""

import copy
import random
import unittest

from tests import samples, slow
from tests.samples import STRANGE, changed, net_of, paths, same, turned
from tests.slow import HOUSE, TWO, chance_opening, fallen, length, names, ridden_slowly, spot_of, steps
from wallplan.errors import NoMove, NoOpening, NoWall, TooMany
from wallplan.moves import move
from wallplan.openings import first_fallen, is_made, ridden, stretch
from wallplan.walls import put, take

MOST = 10 ** 6

# A level wall from 0 (10, 20) to 1 (40, 20) alone, and an upright one from 0 (20, 10) to 1 (20, 40).
LEVEL = net_of([(10, 20, 40, 20)])
UPRIGHT = turned(LEVEL)


class IsMadeTest(unittest.TestCase):
    def check(self, thing, expected, net=TWO):
        for _ in range(2):
            self.assertIs(is_made(net, thing), expected, thing)

    def yes(self, *thing):
        self.check(thing, True)

    def no(self, *thing):
        self.check(thing, False)

    def test_from_either_end(self):
        for a, b in TWO[1]:
            for kind in ("door", "window"):
                self.yes("a", kind, (a, b), a, 1, 2)
                self.yes("a", kind, (a, b), b, 1, 2)

    def test_the_least_and_the_greatest_numbers(self):
        for end in (0, 1):
            for at in (0, 1, MOST - 1, MOST):
                for width in (1, 2, MOST - 1, MOST):
                    self.yes("a", "door", (0, 1), end, at, width)
            for at in (-1, MOST + 1, -MOST, 10 ** 30):
                self.no("a", "door", (0, 1), end, at, 1)
            for width in (0, -1, MOST + 1, -MOST, 10 ** 30):
                self.no("a", "door", (0, 1), end, 0, width)

    def test_names(self):
        for name in ("a", "z", "ab", "abcdefgh", "zzzzzzzz", "door"):
            self.yes(name, "door", (0, 1), 0, 1, 1)
        for name in ("", "abcdefghi", "A", "aB", "a1", "1", "a b", " ", "a ", " a", "a_", "a-", "a\n", "\t", "{", "`"):
            self.no(name, "door", (0, 1), 0, 1, 1)
        for name in (None, 0, True, ("a",), ["a"], b"a"):
            self.no(name, "door", (0, 1), 0, 1, 1)

    def test_kinds(self):
        for kind in ("", "d", "doors", "Door", "DOOR", "gate", "wall", "door ", None, 0, True, ("door",), ["window"]):
            self.no("a", kind, (0, 1), 0, 1, 1)

    def test_walls_of_the_net_alone(self):
        for a, b in TWO[1]:
            self.no("a", "door", (b, a), a, 1, 1)
            self.no("a", "door", [a, b], a, 1, 1)
            self.no("a", "door", (a, b, a), a, 1, 1)
            self.no("a", "door", (a,), a, 1, 1)
        for wall in ((0, 5), (0, 0), (6, 7), (1, 2), (0, 3), (0, 999), (-1, 0), (0, 1000), (), None, 0, "01", True):
            self.no("a", "door", wall, 0, 1, 1)
        self.no("a", "door", (False, True), 0, 1, 1)
        self.no("a", "door", (0, True), 0, 1, 1)
        self.check(("a", "door", (0, 1), 0, 1, 1), True, LEVEL)
        self.check(("a", "door", (0, 2), 0, 1, 1), False, LEVEL)
        self.check(("a", "door", (0, 1), 0, 1, 1), False, samples.EMPTY)

    def test_ends_of_its_own_wall_alone(self):
        for end in (2, 3, 4, 5, 6, -1, 999, None, "0", (0,), [0], 10 ** 30):
            self.no("a", "door", (0, 1), end, 1, 1)
        for end in (True, False):
            self.no("a", "door", (0, 1), end, 1, 1)

    def test_numbers_of_other_kinds(self):
        for number in (None, True, False, "1", (1,), [1], 1.0):
            self.no("a", "door", (0, 1), 0, number, 1)
            self.no("a", "door", (0, 1), 0, 1, number)

    def test_parts_more_or_fewer(self):
        opening = ("a", "door", (0, 1), 0, 1, 1)
        self.check(opening, True)
        for thing in (opening[:5], opening[1:], opening + (1,), opening + opening, list(opening), (opening,),
                      [opening]):
            self.check(thing, False)
        self.no("a", "door", 0, 1, 0, 1, 1)

    def test_it_is_made_though_it_does_not_stand(self):
        self.assertEqual(length(TWO, (0, 2)), 5)
        self.yes("a", "door", (0, 2), 0, 4, 2)
        self.yes("a", "window", (0, 2), 2, 500, 600)

    def test_anything(self):
        for thing in STRANGE:
            self.check(thing, False)
            self.check(thing, False, samples.EMPTY)

    def test_strange_things_in_each_place(self):
        opening = ("a", "door", (0, 1), 0, 1, 1)
        for path in paths(opening):
            for thing in STRANGE:
                good = same(thing, "ab") and path == (0,) or same(thing, 1) and path in ((3,), (4,), (5,), (2, 1))
                self.check(changed(opening, path, thing), good)

    def test_nothing_is_changed(self):
        for thing in (["a", "door", [0, 1], 0, 1, 1], ("a", "door", (0, 1), 0, 1, 1), [[]]):
            before = copy.deepcopy((TWO, thing))
            is_made(TWO, thing)
            self.assertTrue(same((TWO, thing), before))


class StretchTest(unittest.TestCase):
    def check(self, net, opening, expected):
        for _ in range(2):
            self.assertTrue(same(stretch(net, opening), expected))

    def test_level_and_upright_from_either_end(self):
        for kind in ("door", "window"):
            self.check(LEVEL, ("a", kind, (0, 1), 0, 3, 5), (13, 20, 18, 20))
            self.check(LEVEL, ("a", kind, (0, 1), 1, 3, 5), (32, 20, 37, 20))
            self.check(UPRIGHT, ("a", kind, (0, 1), 0, 3, 5), (20, 13, 20, 18))
            self.check(UPRIGHT, ("a", kind, (0, 1), 1, 3, 5), (20, 32, 20, 37))

    def test_the_whole_wall(self):
        for end in (0, 1):
            self.check(LEVEL, ("a", "door", (0, 1), end, 0, 30), (10, 20, 40, 20))
            self.check(UPRIGHT, ("a", "door", (0, 1), end, 0, 30), (20, 10, 20, 40))

    def test_walls_whose_first_end_has_the_greater_number(self):
        net = net_of([(10, 20, 40, 20)], (7, 3))
        self.assertEqual(net[1], ((7, 3),))
        self.check(net, ("a", "door", (7, 3), 7, 2, 1), (12, 20, 13, 20))
        self.check(net, ("a", "door", (7, 3), 3, 2, 1), (37, 20, 38, 20))
        self.check(turned(net), ("a", "door", (7, 3), 3, 2, 1), (20, 37, 20, 38))

    def test_the_longest(self):
        net = net_of([(0, MOST, MOST, MOST)])
        self.check(net, ("a", "door", (0, 1), 1, 0, MOST), (0, MOST, MOST, MOST))
        self.check(net, ("a", "door", (0, 1), 1, MOST - 1, 1), (0, MOST, 1, MOST))

    def test_as_step_by_step(self):
        for net, _, openings, _ in slow.chance_plans():
            for opening in openings:
                x, y = spot_of(net)[opening[2][0]]
                u, v = spot_of(net)[opening[2][1]]
                on = sorted((x + k * (u > x), y + k * (v > y)) for k in steps(net, opening))
                last = on[-1][0] + (u > x), on[-1][1] + (v > y)
                self.check(net, opening, on[0] + last)


class FirstFallenTest(unittest.TestCase):
    def check(self, net, openings, expected):
        for _ in range(2):
            self.assertTrue(same(first_fallen(net, openings), expected), openings)
        self.assertEqual(min(fallen(net, openings), default=None), expected)

    def test_none(self):
        self.check(samples.EMPTY, (), None)
        self.check(TWO, (), None)
        self.check(TWO, HOUSE[2], None)

    def test_just_at_the_wall_s_end_and_one_beyond(self):
        for net in (LEVEL, UPRIGHT):
            for end in (0, 1):
                for kind in ("door", "window"):
                    for at, width in ((0, 30), (29, 1), (10, 20), (0, 1)):
                        self.check(net, (("a", kind, (0, 1), end, at, width),), None)
                    for at, width in ((0, 31), (30, 1), (10, 21), (29, 2), (31, 1), (MOST, MOST), (1, MOST)):
                        self.check(net, (("a", kind, (0, 1), end, at, width),), "a")

    def test_two_that_touch_and_two_that_have_more_in_common(self):
        for net in (LEVEL, UPRIGHT):
            for end in (0, 1):
                one = ("a", "door", (0, 1), end, 4, 6)
                for at, width, good in (
                    (10, 5, True), (9, 5, False), (0, 4, True), (0, 5, False), (4, 6, False), (5, 1, False),
                    (0, 30, False), (9, 1, False), (4, 1, False), (3, 1, True), (10, 1, True), (11, 4, True),
                ):
                    same_end = ("b", "window", (0, 1), end, at, width)
                    other_end = ("b", "door", (0, 1), 1 - end, 30 - at - width, width)
                    for other in (same_end, other_end):
                        self.check(net, (one, other), None if good else "a")
                        self.check(net, (("a",) + other[1:], ("b",) + one[1:]), None if good else "a")

    def test_of_two_with_more_in_common_both_do_not_stand(self):
        ahead = ("a", "door", (0, 1), 0, 20, 5)
        self.check(LEVEL, (ahead, ("b", "door", (0, 1), 0, 1, 5), ("c", "door", (0, 1), 0, 5, 5)), "b")
        self.check(LEVEL, (ahead, ("b", "door", (0, 1), 0, 5, 5), ("c", "door", (0, 1), 0, 1, 5)), "b")
        self.check(LEVEL,
                   (("a", "door", (0, 1), 0, 3, 5), ("b", "door", (0, 1), 0, 9, 1), ("c", "door", (0, 1), 0, 7, 1)),
                   "a")

    def test_one_that_goes_too_far_and_one_in_its_way(self):
        self.check(LEVEL, (("a", "door", (0, 1), 0, 25, 2), ("b", "door", (0, 1), 0, 26, 9)), "a")
        self.check(LEVEL, (("a", "door", (0, 1), 0, 25, 1), ("b", "door", (0, 1), 0, 26, 9)), "b")
        self.check(LEVEL, (("a", "door", (0, 1), 0, 2, 2), ("b", "door", (0, 1), 1, 26, 9)), "a")
        self.check(LEVEL, (("a", "door", (0, 1), 0, 4, 2), ("b", "door", (0, 1), 1, 26, 9)), "b")

    def test_the_first_by_names(self):
        far = ("door", (0, 2), 0, 5, 1)
        self.check(TWO, (("a", "door", (0, 2), 0, 0, 1), ("aa",) + far, ("b", "door", (1, 3), 1, 9, 1)), "aa")
        self.check(TWO, (("a", "door", (0, 2), 0, 0, 1), ("b", "door", (1, 3), 1, 9, 1), ("ba",) + far), "b")

    def test_openings_of_unlike_walls_do_not_matter(self):
        self.check(TWO, (("a", "door", (0, 2), 0, 0, 5), ("b", "door", (1, 3), 1, 0, 5), ("c", "door", (2, 4), 2, 0, 7),
                         ("d", "door", (2, 3), 2, 0, 8)), None)

    def test_forty(self):
        net = net_of([(0, 0, 80, 0)])
        openings = tuple((name, "door", (0, 1), k % 2, k if k % 2 == 0 else 80 - k - 1, 1)
                         for k, name in enumerate(names(40)))
        self.check(net, openings, None)
        self.check(net, openings[:39] + ((names(40)[39], "door", (0, 1), 0, 3, 1),), names(40)[3])

    def test_as_step_by_step(self):
        chance = random.Random(3)
        answers = {"none": 0, "some": 0}
        for net in samples.chance_nets() + [TWO, LEVEL] * 20:
            if net[1]:
                many = chance.randint(1, 6)
                openings = tuple(chance_opening(chance, net, name) for name in names(many))
                expected = min(fallen(net, openings), default=None)
                answers["none" if expected is None else "some"] += 1
                self.check(net, openings, expected)
        self.assertGreater(min(answers.values()), 20, answers)


class RiddenTest(unittest.TestCase):
    def rides(self, net, openings, new, expected):
        for _ in range(2):
            self.assertTrue(same(ridden(net, openings, new), expected), (ridden(net, openings, new), expected))
        self.assertIsNone(first_fallen(new, expected))

    def refused(self, net, openings, new, name):
        for _ in range(2):
            with self.assertRaises(NoOpening) as caught:
                ridden(net, openings, new)
            self.assertTrue(same(caught.exception.name, name))

    def one(self, net, opening, new, expected):
        """One opening rides so, in all turned too; a text for what is expected is the refusal's name."""
        for wanted, later in ((net, new), (turned(net), turned(new))):
            if isinstance(expected, str):
                self.refused(wanted, (opening,), later, expected)
            else:
                self.rides(wanted, (opening,), later, () if expected is None else (expected,))

    def test_no_openings(self):
        self.rides(samples.EMPTY, (), put(samples.EMPTY, (0, 0), (0, 5)), ())
        self.rides(TWO, (), take(TWO, 0, 1), ())

    def test_walls_that_are_not_touched(self):
        for new in (put(TWO, (20, 0), (20, 9)), put(TWO, (12, 4), (20, 4)), take(TWO, 1, 3), TWO):
            kept = HOUSE[2] if new[1].count((4, 5)) else HOUSE[2][:2]
            self.rides(TWO, kept, new, kept)

    def test_a_wall_cut_ahead_of_and_behind_an_opening(self):
        # Cut at 2 (22, 20), 12 from the first end and 18 from the second one.
        new = put(LEVEL, (22, 20), (22, 30))
        self.assertEqual(new[1], ((0, 2), (2, 1), (2, 3)))
        for kind in ("door", "window"):
            self.one(LEVEL, ("a", kind, (0, 1), 0, 3, 5), new, ("a", kind, (0, 2), 0, 3, 5))
            self.one(LEVEL, ("a", kind, (0, 1), 0, 0, 12), new, ("a", kind, (0, 2), 0, 0, 12))
            self.one(LEVEL, ("a", kind, (0, 1), 0, 12, 18), new, ("a", kind, (2, 1), 2, 0, 18))
            self.one(LEVEL, ("a", kind, (0, 1), 0, 15, 4), new, ("a", kind, (2, 1), 2, 3, 4))
            self.one(LEVEL, ("a", kind, (0, 1), 1, 3, 5), new, ("a", kind, (2, 1), 1, 3, 5))
            self.one(LEVEL, ("a", kind, (0, 1), 1, 0, 18), new, ("a", kind, (2, 1), 1, 0, 18))
            self.one(LEVEL, ("a", kind, (0, 1), 1, 18, 12), new, ("a", kind, (0, 2), 2, 0, 12))
            self.one(LEVEL, ("a", kind, (0, 1), 1, 20, 4), new, ("a", kind, (0, 2), 2, 2, 4))

    def test_a_wall_cut_within_an_opening(self):
        new = put(LEVEL, (22, 20), (22, 30))
        for end, at, width in ((0, 0, 30), (0, 11, 2), (0, 0, 13), (0, 11, 19), (1, 17, 2), (1, 0, 19), (1, 17, 13)):
            self.one(LEVEL, ("cut", "door", (0, 1), end, at, width), new, "cut")

    def test_a_wall_cut_by_one_that_goes_across(self):
        new = put(LEVEL, (22, 15), (22, 30))
        self.assertEqual(new[0], ((0, 10, 20), (1, 40, 20), (2, 22, 15), (3, 22, 20), (4, 22, 30)))
        self.one(LEVEL, ("a", "door", (0, 1), 0, 12, 3), new, ("a", "door", (3, 1), 3, 0, 3))
        self.one(LEVEL, ("a", "door", (0, 1), 0, 11, 3), new, "a")

    def test_a_wall_that_is_met_at_its_end_is_not_cut(self):
        for spot in ((10, 20), (40, 20)):
            new = put(LEVEL, spot, (spot[0], 50))
            self.one(LEVEL, ("a", "door", (0, 1), 0, 0, 30), new, ("a", "door", (0, 1), 0, 0, 30))
        new = put(LEVEL, (40, 20), (60, 20))
        self.one(LEVEL, ("a", "door", (0, 1), 1, 0, 30), new, ("a", "door", (0, 1), 1, 0, 30))

    def test_a_wall_cut_more_than_once(self):
        # Cut at 2 (22, 20), then at 4 (30, 20), then at 6 (16, 20).
        first = put(LEVEL, (22, 20), (22, 30))
        second = put(first, (30, 20), (30, 30))
        third = put(second, (16, 20), (16, 10))
        for end, at, width, kept in (
            (0, 13, 5, ((2, 1), (2, 4), (2, 4), 2, 1)), (1, 11, 3, ((2, 1), (2, 4), (2, 4), 4, 1)),
            (0, 7, 4, ((0, 2), (0, 2), (7, 2), 7, 1)), (1, 19, 4, ((0, 2), (0, 2), (7, 2), 2, 1)),
            (0, 20, 10, ((2, 1), (4, 1), (4, 1), 4, 0)), (1, 25, 4, ((0, 2), (0, 2), (0, 7), 7, 1)),
        ):
            openings = (("a", "door", (0, 1), end, at, width),)
            for net, new, wall in zip((LEVEL, first, second), (first, second, third), kept):
                openings = ridden(net, openings, new)
                self.assertEqual(openings[0][2], wall)
            self.assertTrue(same(openings, (("a", "door", kept[2], kept[3], kept[4], width),)), openings)
        with self.assertRaises(NoOpening):
            ridden(first, ridden(LEVEL, (("a", "door", (0, 1), 0, 13, 9),), first), second)

    def test_walls_of_several_are_cut_at_once(self):
        net = net_of([(0, 0, 0, 10), (5, 0, 5, 10), (9, 0, 9, 10)])
        new = put(net, (0, 6), (9, 6))
        openings = (("a", "door", (0, 1), 1, 5, 2), ("b", "window", (2, 3), 3, 0, 4), ("c", "door", (4, 5), 4, 7, 1))
        self.rides(net, openings, new, (
            ("a", "door", (0, 6), 6, 1, 2), ("b", "window", (7, 3), 3, 0, 4), ("c", "door", (8, 5), 8, 1, 1)
        ))
        self.refused(net, (("a", "door", (0, 1), 1, 5, 2), ("b", "window", (2, 3), 3, 0, 5),
                           ("c", "door", (4, 5), 4, 5, 2)), new, "b")
        self.refused(net, (("a", "door", (0, 1), 1, 5, 2), ("b", "window", (2, 3), 3, 0, 4),
                           ("c", "door", (4, 5), 4, 5, 2)), new, "c")

    def test_a_wall_taken(self):
        openings = (("a", "door", (0, 2), 0, 1, 2), ("b", "door", (2, 3), 2, 1, 2), ("c", "window", (2, 3), 2, 4, 2),
                    ("d", "door", (2, 4), 2, 1, 2))
        self.rides(TWO, openings, take(TWO, 3, 2), (openings[0], openings[3]))
        self.rides(TWO, openings, take(TWO, 0, 2), openings[1:])
        self.rides(TWO, openings, take(TWO, 0, 1), openings)
        self.rides(LEVEL, (("a", "door", (0, 1), 0, 0, 30),), take(LEVEL, 0, 1), ())

    def test_a_wall_in_a_line_with_others_taken(self):
        net = net_of([(0, 0, 4, 0), (4, 0, 9, 0), (9, 0, 12, 0)])
        openings = (("a", "door", (0, 1), 1, 0, 4), ("b", "door", (1, 2), 1, 0, 5), ("c", "door", (2, 3), 3, 0, 3))
        for k, (a, b) in enumerate(net[1]):
            self.rides(net, openings, take(net, a, b), openings[:k] + openings[k + 1:])

    def test_a_wall_is_longer(self):
        openings = (("a", "door", (0, 2), 0, 1, 2), ("b", "window", (0, 2), 2, 0, 2), ("c", "door", (2, 3), 3, 1, 2))
        for d in (0, 1, 6):
            self.rides(TWO, openings, move(TWO, 2, "x", d), openings)

    def test_a_wall_is_shorter_by_as_much_as_is_let_by_and_one_more(self):
        # The wall from 0 to 2 is 5 long; behind the first opening 2 are left, ahead of the second one 2.
        for opening in (("a", "door", (0, 2), 0, 1, 2), ("a", "window", (0, 2), 2, 1, 2),
                        ("a", "door", (0, 2), 2, 0, 3)):
            self.rides(TWO, (opening,), move(TWO, 2, "x", -2), (opening,))
            self.refused(TWO, (opening,), move(TWO, 2, "x", -3), "a")
        # From unlike ends: 1 is left between them.
        both = (("a", "door", (0, 2), 0, 0, 2), ("b", "window", (0, 2), 2, 0, 2))
        self.rides(TWO, both, move(TWO, 2, "x", -1), both)
        self.refused(TWO, both, move(TWO, 2, "x", -2), "a")
        self.rides(TWO, both[:1], move(TWO, 2, "x", -3), both[:1])

    def test_of_several_that_no_longer_stand_the_first_by_names(self):
        openings = (("a", "door", (2, 4), 2, 0, 7), ("b", "door", (1, 3), 1, 0, 2), ("ba", "door", (1, 3), 3, 0, 3),
                    ("c", "door", (0, 2), 0, 0, 5))
        self.refused(TWO, openings, move(TWO, 2, "x", -1), "b")
        self.refused(TWO, openings, move(TWO, 2, "x", 1), "a")
        self.refused(TWO, openings[:2] + openings[3:], move(TWO, 2, "x", -1), "c")

    def test_as_step_by_step(self):
        chance = random.Random(8)
        answers = {"rides": 0, "cut": 0, "gone": 0, "refused": 0}
        for plan in slow.chance_plans():
            for new in self.nets_behind(chance, plan[0]):
                expected = ridden_slowly(plan[0], plan[2], new)
                if isinstance(expected, str):
                    answers["refused"] += 1
                    self.refused(plan[0], plan[2], new, expected)
                else:
                    answers["rides"] += 1
                    answers["gone"] += len(expected) < len(plan[2])
                    answers["cut"] += any(opening not in plan[2] for opening in expected)
                    self.rides(plan[0], plan[2], new, expected)
        self.assertGreater(min(answers.values()), 20, answers)

    def nets_behind(self, chance, net):
        """Nets that came of this one by one wall put or taken or a run moved."""
        found = []
        wide, high = samples.reach(net)
        for _ in range(6):
            x, y, u, v = [chance.randrange(size) for size in (wide + 1, high + 1) * 2]
            try:
                found.append(put(net, (x, y), (x, v) if chance.randrange(2) else (u, y)))
            except (NoWall, TooMany):
                pass
        for c, _, _ in chance.sample(net[0], min(len(net[0]), 5)):
            try:
                found.append(move(net, c, chance.choice("xy"), chance.choice([-3, -2, -1, 1, 2])))
            except NoMove:
                pass
        return found + [take(net, *chance.choice(net[1])) for _ in range(min(len(net[1]), 2))]

    def test_nothing_is_changed(self):
        new = put(LEVEL, (22, 20), (22, 30))
        for opening in (("a", "door", (0, 1), 0, 3, 5), ("a", "door", (0, 1), 0, 10, 5)):
            before = copy.deepcopy((LEVEL, opening, new))
            try:
                ridden(LEVEL, (opening,), new)
            except NoOpening:
                pass
            self.assertTrue(same((LEVEL, opening, new), before))
