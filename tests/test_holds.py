"""Held sizes: holds, groups, and groups moved [2, 3, 19, 20]."""

import copy
import random
import unittest

from tests import samples
from tests.samples import STRANGE, at_path, changed, net_of, paths, same, turned
from wallplan.errors import Held, NoAxis, NoCorner, NoMove
from wallplan.holds import does_hold, group, is_hold, move_group
from wallplan.moves import move, run
from wallplan.nets import is_net
from wallplan.rings import rings
from wallplan.rooms import outside, rooms

MOST = 10 ** 6

# Six corners, three upright walls: 0 1 at 2, 2 3 at 5, 4 5 at 9; each has its own y from 0 to 4.
POSTS = net_of([(2, 0, 2, 4), (5, 0, 5, 4), (9, 0, 9, 4)])

# A room from (0, 0) to (20, 9) parted by upright walls at 4 and 10: corners 0 1 at 0, 2 3 at 4, 4 5 at 10, 6 7 at 20.
PARTED = net_of(
    [(0, 0, 4, 0), (4, 0, 10, 0), (10, 0, 20, 0), (0, 9, 4, 9), (4, 9, 10, 9), (10, 9, 20, 9)]
    + [(x, 0, x, 9) for x in (0, 4, 10, 20)]
)


def tight(name, axis, c, d, size):
    return (name, axis, c, d, size, size)


def turned_holds(holds):
    """The holds with the axes exchanged."""
    return tuple((name, "yx"["xy".index(axis)], *rest) for name, axis, *rest in holds)


def group_slowly(net, holds, c, axis):
    """Sets of corners put together while a tight hold of the axis ties two of them."""
    groups = [set(run(net, k, axis)) for k, _, _ in net[0]]
    for _, own, a, b, least, most in holds:
        if own == axis and least == most:
            both = [found for found in groups if a in found or b in found]
            groups = [found for found in groups if found not in both] + [set().union(*both)]
    return tuple(sorted([found for found in groups if c in found][0]))


def move_slowly(net, holds, c, d):
    """What [20] tells along "x", spot by spot: a net, NoMove, or the name of the hold that wouldn't hold."""
    own = group_slowly(net, holds, c, "x")
    at = {k: (x, y) for k, x, y in net[0]}
    new = {k: (x + d, y) if k in own else (x, y) for k, x, y in net[0]}
    if not all(0 <= x <= MOST for x, _ in new.values()):
        return NoMove
    others = {at[k] for k in at if k not in own}
    for a, b in net[1]:
        if at[a][0] == at[b][0] and a not in own:
            others |= samples.spots_on((*at[a], *at[b]))
    for k in own:
        ys = [at[j][1] for j in run(net, k, "x")]
        x = at[k][0]
        if others & samples.spots_on((min(x, x + d), min(ys), max(x, x + d), max(ys))):
            return NoMove
    for name, axis, a, b, least, most in sorted(holds):
        k = "xy".index(axis)
        if not least <= new[b][k] - new[a][k] <= most:
            return name
    return tuple((k, *new[k]) for k in sorted(new)), net[1]


def chance_holds(chance, net):
    """Some holds that hold, by chance, rising by names."""
    at = {c: (x, y) for c, x, y in net[0]}
    found = []
    for name in sorted(chance.sample(["a", "b", "cc", "d", "door", "e", "zzzzzzzz"], chance.randrange(8))):
        c, d = chance.choice(list(at)), chance.choice(list(at))
        axis = chance.choice("xxy")
        k = "xy".index(axis)
        size = at[d][k] - at[c][k]
        below, above = (0, 0) if chance.randrange(3) == 0 else (chance.randrange(9), chance.randrange(9))
        found.append((name, axis, c, d, size - below, size + above))
    return tuple(found)


class HoldTest(unittest.TestCase):
    def check(self, thing, expected):
        for _ in range(2):
            self.assertIs(is_hold(samples.SQUARE, thing), expected, thing)

    def yes(self, *thing):
        self.check(thing, True)

    def no(self, *thing):
        self.check(thing, False)

    def test_names(self):
        for name in ("a", "z", "ab", "abcdefgh", "zzzzzzzz", "x"):
            self.yes(name, "x", 0, 1, 0, 5)
        wrong = ("", "abcdefghi", "A", "aB", "a1", "1", "a b", " a", "a ", "a-b", "a\n", "\n", "\t", "a_b", "`", "{")
        for name in wrong:
            self.no(name, "x", 0, 1, 0, 5)
        for name in (None, 1, True, ("a",), ["a"], (), b"a", "\u00e4", "\u00df", "\u0430"):
            self.no(name, "x", 0, 1, 0, 5)

    def test_axes(self):
        self.yes("a", "x", 0, 1, 0, 5)
        self.yes("a", "y", 0, 1, 0, 5)
        for axis in ("", "z", "X", "xy", "x ", None, 0, True, ("x",), ["x"], b"x"):
            self.no("a", axis, 0, 1, 0, 5)

    def test_corners(self):
        for c, d in ((0, 3), (3, 0), (2, 2), (1, 0)):
            self.yes("a", "x", c, d, 0, 5)
        for c in (4, -1, 1000, None, "0", True, False, (0,), [0], 10 ** 30, 0.0):
            self.no("a", "x", c, 1, 0, 5)
            self.no("a", "x", 1, c, 0, 5)
        self.assertIs(is_hold(samples.EMPTY, ("a", "x", 0, 0, 0, 0)), False)
        net = net_of([(0, 0, 5, 0)], (999, 7))
        self.assertIs(is_hold(net, ("a", "x", 999, 7, 0, 0)), True)
        self.assertIs(is_hold(net, ("a", "x", 0, 7, 0, 0)), False)

    def test_sizes(self):
        for least, most in ((-MOST, MOST), (0, 0), (MOST, MOST), (-MOST, -MOST), (-5, -4), (-1, 0), (0, 1)):
            self.yes("a", "x", 0, 1, least, most)
        for least, most in ((1, 0), (5, -5), (-MOST - 1, 0), (0, MOST + 1), (MOST + 1, MOST + 1), (MOST, -MOST)):
            self.no("a", "x", 0, 1, least, most)
        self.no("a", "x", 0, 1, -MOST - 1, -MOST - 1)
        for size in (None, "0", True, False, (), [0], 0.0):
            self.no("a", "x", 0, 1, size, 5)
            self.no("a", "x", 0, 1, 0, size)
            self.no("a", "x", 0, 1, size, size)

    def test_lengths_and_kinds(self):
        hold = ("a", "x", 0, 1, 0, 5)
        self.check(hold, True)
        for thing in (hold[:5], hold + (5,), hold[1:], list(hold), (hold,), [hold], hold + hold, "axxxxx"):
            self.check(thing, False)

    def test_whether_it_holds_does_not_matter(self):
        self.yes("a", "x", 0, 2, 100, 200)
        self.yes("a", "x", 0, 0, 1, 1)

    def test_anything(self):
        for thing in STRANGE:
            self.check(thing, False)

    def test_strange_things_in_each_place(self):
        hold = ("a", "x", 0, 1, 0, 1)
        for path in paths(hold):
            for thing in STRANGE:
                if same(thing, "ab") and path == (0,):
                    continue
                if same(thing, 1) and path in ((2,), (3,), (4,), (5,)) or same(thing, -1) and path == (4,):
                    continue
                self.check(changed(hold, path, thing), False)
            if at_path(hold, path) in (0, 1):
                self.check(changed(hold, path, bool(at_path(hold, path))), False)

    def test_nothing_is_changed(self):
        for thing in (("a", "x", 0, 1, 0, 5), ["a", "x", [0], 1, 0, 5], [[[]]]):
            before = copy.deepcopy((samples.SQUARE, thing))
            is_hold(samples.SQUARE, thing)
            self.assertTrue(same((samples.SQUARE, thing), before))


class DoesHoldTest(unittest.TestCase):
    def test_from_least_to_most(self):
        # 3's spot is (4, 3), 0's is (0, 0).
        sizes = ((4, 4, True), (0, 4, True), (4, 9, True), (5, 9, False), (0, 3, False), (-4, -4, False))
        for least, most, expected in sizes:
            for _ in range(2):
                self.assertIs(does_hold(samples.SQUARE, ("a", "x", 0, 3, least, most)), expected)
                self.assertIs(does_hold(samples.SQUARE, ("a", "x", 3, 0, -most, -least)), expected)
        sizes = ((3, 3, True), (0, 3, True), (3, 9, True), (4, 9, False), (0, 2, False), (-3, -3, False))
        for least, most, expected in sizes:
            self.assertIs(does_hold(samples.SQUARE, ("a", "y", 0, 3, least, most)), expected)
            self.assertIs(does_hold(samples.SQUARE, ("a", "y", 3, 0, -most, -least)), expected)

    def test_by_one_corner_alone(self):
        for axis in ("x", "y"):
            self.assertIs(does_hold(samples.SQUARE, ("a", axis, 3, 3, 0, 0)), True)
            self.assertIs(does_hold(samples.SQUARE, ("a", axis, 3, 3, -5, 5)), True)
            self.assertIs(does_hold(samples.SQUARE, ("a", axis, 3, 3, 1, 5)), False)
            self.assertIs(does_hold(samples.SQUARE, ("a", axis, 3, 3, -5, -1)), False)

    def test_the_farthest_sizes(self):
        net = net_of([(0, 7, MOST, 7)])
        self.assertIs(does_hold(net, ("a", "x", 0, 1, MOST, MOST)), True)
        self.assertIs(does_hold(net, ("a", "x", 1, 0, -MOST, -MOST)), True)
        self.assertIs(does_hold(net, ("a", "x", 0, 1, -MOST, MOST - 1)), False)


class GroupTest(unittest.TestCase):
    def check(self, net, holds, c, axis, expected):
        for _ in range(2):
            self.assertTrue(same(group(net, holds, c, axis), expected))
            self.assertTrue(same(group(turned(net), turned_holds(holds), c, "yx"["xy".index(axis)]), expected))

    def test_without_holds_it_is_the_run(self):
        for net in list(samples.NAMED.values()) + samples.chance_nets()[::9]:
            for c, _, _ in net[0]:
                for axis in ("x", "y"):
                    self.check(net, (), c, axis, run(net, c, axis))

    def test_a_tight_hold_ties_two_runs(self):
        for hold in (tight("a", "x", 0, 2, 3), tight("a", "x", 3, 1, -3), tight("a", "x", 0, 3, 3)):
            for c in (0, 1, 2, 3):
                self.check(POSTS, (hold,), c, "x", (0, 1, 2, 3))
            for c in (4, 5):
                self.check(POSTS, (hold,), c, "x", (4, 5))

    def test_holds_that_are_not_tight_tie_nothing(self):
        for least, most in ((3, 4), (2, 3), (-MOST, MOST)):
            self.check(POSTS, (("a", "x", 0, 2, least, most),), 0, "x", (0, 1))

    def test_holds_of_the_other_axis_tie_nothing(self):
        self.check(POSTS, (tight("a", "y", 0, 2, 0),), 0, "x", (0, 1))
        self.check(POSTS, (tight("a", "y", 0, 2, 0),), 0, "y", (0, 2))
        self.check(POSTS, (tight("a", "y", 0, 2, 0),), 1, "y", (1,))

    def test_runs_tied_one_behind_another(self):
        for holds in (
            (tight("a", "x", 0, 2, 3), tight("b", "x", 3, 5, 4)), (tight("a", "x", 5, 2, -4), tight("b", "x", 1, 3, 3)),
            (tight("a", "x", 0, 5, 7), tight("b", "x", 2, 4, 4)), (tight("a", "x", 0, 5, 7), tight("b", "x", 1, 2, 3)),
        ):
            for c in range(6):
                self.check(POSTS, holds, c, "x", (0, 1, 2, 3, 4, 5))
        many = net_of([(k, 0, k, 1) for k in range(30)])
        holds = tuple(tight("a" + "abcdefghijklmnopqrstuvwxyz"[k % 26] * (1 + k // 26), "x", 2 * k, 2 * k + 3, 1)
                      for k in range(29))
        self.check(many, tuple(sorted(holds)), 0, "x", tuple(range(60)))
        self.check(many, tuple(sorted(holds)), 59, "x", tuple(range(60)))

    def test_a_hold_of_one_run(self):
        self.check(POSTS, (tight("a", "x", 0, 0, 0), tight("b", "x", 2, 3, 0)), 0, "x", (0, 1))
        self.check(POSTS, (tight("a", "x", 0, 0, 0), tight("b", "x", 2, 3, 0)), 3, "x", (2, 3))

    def test_by_chance(self):
        chance = random.Random(2)
        tied = 0
        for net in samples.chance_nets():
            if net[0]:
                holds = chance_holds(chance, net)
                for c, _, _ in net[0][::3]:
                    for axis in ("x", "y"):
                        expected = group_slowly(net, holds, c, axis)
                        tied += expected != run(net, c, axis)
                        self.check(net, holds, c, axis, expected)
        self.assertGreater(tied, 100)


class RefusalTest(unittest.TestCase):
    def refused(self, refusal, net, holds, c, axis):
        for _ in range(2):
            with self.assertRaises(refusal):
                group(net, holds, c, axis)
            for d in (0, 1, -10 ** 9):
                with self.assertRaises(refusal):
                    move_group(net, holds, c, axis, d)

    def test_no_corner_then_no_axis(self):
        holds = (("a", "x", 0, 2, 3, 3), ("b", "x", 0, 4, 7, 7))
        for own in ((), holds):
            for thing in STRANGE:
                if not same(thing, 1):
                    self.refused(NoCorner, POSTS, own, thing, "x")
                    self.refused(NoCorner, POSTS, own, thing, thing)
                self.refused(NoAxis, POSTS, own, 1, thing)
            for c in (6, -1, 1000, "0", [0], True, False):
                self.refused(NoCorner, POSTS, own, c, "y")
                self.refused(NoCorner, POSTS, own, c, "z")
            for axis in ("z", "X", "", "xy", ["x"], ("y",)):
                self.refused(NoAxis, POSTS, own, 0, axis)
        self.refused(NoCorner, samples.EMPTY, (), 0, "x")


class MoveGroupTest(unittest.TestCase):
    def goes(self, net, holds, c, d):
        """Along "x", and along "y" in all turned, it goes there; the group's corners by as much, and all holds hold."""
        own = group_slowly(net, holds, c, "x")
        expected = tuple((k, x + d if k in own else x, y) for k, x, y in net[0]), net[1]
        for _ in range(2):
            self.assertTrue(same(move_group(net, holds, c, "x", d), expected), (c, d))
            self.assertTrue(same(move_group(turned(net), turned_holds(holds), c, "y", d), turned(expected)), (c, d))
        self.assertTrue(is_net(expected))
        self.assertEqual(rings(expected), rings(net))
        self.assertEqual([room[:2] for room in rooms(expected)], [room[:2] for room in rooms(net)])
        self.assertEqual(outside(expected), outside(net))
        self.assertTrue(all(area > 0 for _, _, area in rooms(expected)))
        self.assertTrue(all(does_hold(expected, hold) for hold in holds))

    def stays(self, net, holds, c, d):
        for _ in range(2):
            with self.assertRaises(NoMove):
                move_group(net, holds, c, "x", d)
            with self.assertRaises(NoMove):
                move_group(turned(net), turned_holds(holds), c, "y", d)

    def held(self, name, net, holds, c, d):
        for _ in range(2):
            with self.assertRaises(Held) as caught:
                move_group(net, holds, c, "x", d)
            self.assertTrue(same(caught.exception.name, name))
            with self.assertRaises(Held) as caught:
                move_group(turned(net), turned_holds(holds), c, "y", d)
            self.assertTrue(same(caught.exception.name, name))

    def test_without_holds_it_is_the_run_moved(self):
        chance = random.Random(6)
        for net in list(samples.NAMED.values()) + samples.chance_nets()[::6]:
            for c, _, _ in net[0][::2]:
                d = chance.randrange(-3, 4)
                try:
                    expected = move(net, c, "x", d)
                except NoMove:
                    self.stays(net, (), c, d)
                else:
                    self.goes(net, (), c, d)
                    self.assertEqual(move_group(net, (), c, "x", d), expected)

    def test_by_nought(self):
        self.goes(PARTED, (tight("a", "x", 0, 2, 4), ("b", "x", 2, 4, 0, 6)), 2, 0)

    def test_a_group_is_moved_all_at_once(self):
        # The walls at 4 and 10 go together, even over where the other one stood.
        holds = (tight("a", "x", 2, 4, 6),)
        for c in (2, 3, 4, 5):
            for d in (-3, -1, 1, 5, 6, 9):
                self.goes(PARTED, holds, c, d)
            for d in (-4, -5, 10, 11, 100):
                self.stays(PARTED, holds, c, d)
        with self.assertRaises(NoMove):
            move(PARTED, 2, "x", 6)

    def test_what_stands_in_the_way_of_another_run_of_the_group(self):
        # The wall at 0 is tied to that at 10: the one at 4 stands in the way of both.
        holds = (tight("a", "x", 0, 4, 10),)
        for d in (1, 3):
            self.goes(PARTED, holds, 0, d)
        for d in (4, 5, 10, -1):
            self.stays(PARTED, holds, 0, d)
        net = move(move(PARTED, 6, "x", 30), 4, "x", 20)
        self.goes(net, (tight("a", "x", 4, 6, 20),), 6, -25)
        self.stays(net, (tight("a", "x", 4, 6, 20),), 6, -26)

    def test_level_walls_are_no_hindrance_and_spots_of_upright_ones_are(self):
        # Two posts, tied; a longer upright wall without a corner in their strips stands ahead of one of them.
        net = net_of([(2, 4, 2, 6), (12, 4, 12, 6), (7, 0, 7, 10)])
        holds = (tight("a", "x", 0, 4, 10),)
        self.goes(net, holds, 0, 4)
        self.stays(net, holds, 0, 5)
        self.stays(net, holds, 4, 5)
        self.goes(net, holds, 4, -2)
        self.stays(net, holds, 4, -3)
        self.goes(move(net, 4, "x", 5), (tight("a", "x", 0, 4, 15),), 0, -2)

    def test_a_spot_that_would_be_none(self):
        net = net_of([(2, 0, 2, 4), (MOST - 3, 0, MOST - 3, 4)])
        holds = (tight("a", "x", 0, 2, MOST - 5),)
        for d in (3, -2, 1):
            for c in (0, 2):
                self.goes(net, holds, c, d)
        for d in (4, -3, 10 ** 30, -10 ** 30):
            for c in (0, 2):
                self.stays(net, holds, c, d)

    def test_a_hold_that_would_not_hold(self):
        holds = (("few", "x", 2, 4, 4, 8),)
        self.goes(PARTED, holds, 4, 2)
        self.held("few", PARTED, holds, 4, 3)
        self.goes(PARTED, holds, 4, -2)
        self.held("few", PARTED, holds, 4, -3)
        self.goes(PARTED, holds, 2, 2)
        self.held("few", PARTED, holds, 2, 3)
        self.goes(PARTED, holds, 6, 500)

    def test_the_first_one_by_names(self):
        holds = (("a", "x", 0, 6, 0, 100), ("b", "x", 4, 6, 9, 10), ("c", "x", 2, 4, 0, 6), ("d", "y", 0, 1, 9, 9))
        self.held("b", PARTED, holds, 4, 2)
        self.held("c", PARTED, holds[:1] + holds[2:], 4, 2)
        self.goes(PARTED, holds, 4, 0)
        self.goes(PARTED, holds[:2], 4, 1)
        self.held("c", PARTED, holds, 4, 1)
        self.held("b", PARTED, (("b", "x", 4, 6, 10, 10 + 1), ("bb", "x", 2, 4, 0, 6)), 4, 1)
        self.held("a", PARTED, (("a", "x", 4, 6, 10, 11), ("aa", "x", 2, 4, 0, 6), ("b", "x", 2, 4, 0, 6)), 4, 1)

    def test_tight_holds_hold_by_the_group(self):
        holds = (tight("a", "x", 2, 4, 6), ("b", "x", 4, 6, 8, 12))
        self.goes(PARTED, holds, 2, 2)
        self.held("b", PARTED, holds, 2, 3)
        self.goes(PARTED, holds, 2, -2)
        self.held("b", PARTED, holds, 2, -3)

    def test_no_move_goes_ahead_of_held(self):
        holds = (("a", "x", 2, 4, 6, 7),)
        self.held("a", PARTED, holds, 4, 9)
        self.stays(PARTED, holds, 4, 10)
        self.held("a", PARTED, holds, 4, -5)
        self.stays(PARTED, holds, 4, -6)
        self.stays(PARTED, holds, 4, MOST)

    def test_as_spot_by_spot(self):
        chance = random.Random(9)
        answers = {"goes": 0, "stays": 0, "held": 0, "together": 0}
        nets = list(samples.NAMED.values()) + samples.chance_nets() + [PARTED, POSTS] * 20
        for net in [net for net in nets if net[0]]:
            holds = chance_holds(chance, net)
            for c, _, _ in chance.sample(net[0], min(len(net[0]), 6)):
                d = chance.choice([-6, -3, -2, -1, 1, 2, 4, 9])
                expected = move_slowly(net, holds, c, d)
                if expected is NoMove:
                    answers["stays"] += 1
                    self.stays(net, holds, c, d)
                elif isinstance(expected, str):
                    answers["held"] += 1
                    self.held(expected, net, holds, c, d)
                else:
                    answers["goes"] += 1
                    answers["together"] += group_slowly(net, holds, c, "x") != run(net, c, "x")
                    self.goes(net, holds, c, d)
                    self.assertEqual(move_group(net, holds, c, "x", d), expected)
        self.assertGreater(min(answers.values()), 20, answers)

    def test_nothing_is_changed(self):
        holds = (tight("a", "x", 2, 4, 6), ("b", "x", 4, 6, 8, 12))
        for c, axis, d in ((2, "x", 1), (2, "x", 9), (2, "x", 3), ([2], ["x"], 1), (2, [["x"]], 1)):
            before = copy.deepcopy((PARTED, holds, c, axis))
            try:
                move_group(PARTED, holds, c, axis, d)
            except (NoCorner, NoAxis, NoMove, Held):
                pass
            self.assertTrue(same((PARTED, holds, c, axis), before))
