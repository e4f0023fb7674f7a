"""Plans and the deeds that make another plan of one [2, 3, 24, 25]."""

import copy
import random
import unittest

from tests import samples, slow
from tests.samples import STRANGE, at_path, box, changed, listed, net_of, paths, same
from tests.slow import HOUSE, TWO, behind, is_plan_slowly, names, with_row, without_row
from wallplan import plans
from wallplan.errors import (
    Held, NoAxis, NoCorner, NoHold, NoMove, NoName, NoOpening, NoPlan, NoThing, NoWall, PlanError, TooMany
)
from wallplan.holds import move_group
from wallplan.plans import (
    EMPTY, group_moved, hold_put, hold_taken, is_plan, look_plan, opening_put, opening_taken, thing_put, thing_taken,
    wall_put, wall_taken
)
from wallplan.walls import put, take

MOST = 10 ** 6

# A long wall with a room at its end, so that there is place for many of each kind.
LONG = net_of([(0, 0, 100, 0)] + box(110, 0, 150, 10))
HOLDS = tuple((name, "xy"[k % 2], 0, 1, 0, 100) for k, name in enumerate(names(31)))
OPENINGS = tuple((name, ("door", "window")[k % 2], (0, 1), 0, 2 * k, 2) for k, name in enumerate(names(41)))
THINGS = tuple((name, 110 + k, 4, 1, 2) for k, name in enumerate(names(31)))
FULL = (LONG, HOLDS[:30], OPENINGS[:40], THINGS[:30])


class PlanTest(unittest.TestCase):
    """What is common to the tests of plans."""

    def refused(self, refusal, name, deed, plan, *handed):
        """It is refused so, twice, with this name (None for those without one, too), and nothing is changed."""
        before = repr((plan, handed))
        for _ in range(2):
            with self.assertRaises(PlanError) as caught:
                deed(plan, *handed)
            self.assertIs(type(caught.exception), refusal, (deed, handed))
            self.assertTrue(same(getattr(caught.exception, "name", None), name), (deed, handed))
        self.assertEqual(repr((plan, handed)), before)

    def made(self, expected, deed, plan, *handed):
        """This plan is made, twice, and nothing is changed."""
        before = repr((plan, handed))
        for _ in range(2):
            new = deed(plan, *handed)
            self.assertTrue(same(new, expected), (deed, handed, new))
        self.assertTrue(is_plan(expected))
        self.assertEqual(repr((plan, handed)), before)

    def told(self, expected, deed, plan, *handed):
        """A plan, or the refusal's class and name, as found out slowly."""
        if isinstance(expected[0], type):
            self.refused(*expected, deed, plan, *handed)
        else:
            self.made(expected, deed, plan, *handed)


class IsPlanTest(unittest.TestCase):
    def check(self, thing, expected):
        for _ in range(2):
            self.assertIs(is_plan(thing), expected, thing)
            if expected:
                self.assertIsNone(look_plan(thing))
            else:
                with self.assertRaises(NoPlan):
                    look_plan(thing)

    def test_the_plan_without_walls(self):
        self.assertTrue(same(EMPTY, (((), ()), (), (), ())))
        self.check(EMPTY, True)

    def test_plans(self):
        for plan in (HOUSE, FULL) + slow.chance_plans():
            self.check(plan, True)

    def test_nets_alone(self):
        for net in list(samples.NAMED.values()) + samples.great_nets():
            self.check((net, (), (), ()), True)
            self.check(net, False)

    def test_a_net_that_is_none(self):
        for net in (((), ((0, 1),)), (((0, 0, 0),), ()), [(), ()], None, TWO[0], (TWO[0], TWO[1][1:] + TWO[1][:1])):
            self.check((net, (), (), ()), False)

    def test_parts_left_out_exchanged_or_more(self):
        net, holds, openings, things = HOUSE
        for thing in (
            HOUSE[:3], HOUSE[1:], HOUSE + ((),), HOUSE + HOUSE, (net, openings, holds, things), (), (HOUSE,), [HOUSE],
            (net, holds, things, openings), (holds, net, openings, things), (net, things, openings, holds), HOUSE[::-1],
            (samples.EMPTY, holds, (), ()), (samples.EMPTY, (), openings, ()), (samples.EMPTY, (), (), things),
        ):
            self.check(thing, False)
        for k in (1, 2, 3):
            self.check(HOUSE[:k] + ((),) + HOUSE[k + 1:], True)

    def test_rows_turned_about_told_twice_or_left_out(self):
        for place in (1, 2, 3):
            rows = HOUSE[place]
            self.check(changed(HOUSE, (place,), rows[::-1]), False)
            self.check(changed(HOUSE, (place,), rows[:1] + rows), False)
            self.check(changed(HOUSE, (place,), rows + rows[-1:]), False)
            self.check(changed(HOUSE, (place,), rows[1:]), True)
            self.check(changed(HOUSE, (place,), rows[0]), False)
            for k, row in enumerate(rows):
                for other in (row[:-1], row[1:], row + row[-1:], row[::-1], (row,)):
                    self.check(changed(HOUSE, (place, k), other), False)
        self.check(changed(HOUSE, (2, 0, 2), (2, 0)), False)

    def test_one_name_twice_though_the_rest_is_unlike(self):
        for place, rows in ((1, (("a", "x", 0, 1, 0, 0), ("a", "y", 0, 1, 0, 9))),
                            (2, (("a", "door", (0, 1), 0, 0, 1), ("a", "door", (0, 1), 0, 5, 1))),
                            (3, (("a", 0, 7, 1, 1), ("a", 2, 7, 1, 1)))):
            self.check(changed((TWO, (), (), ()), (place,), rows), False)
            self.check(changed((TWO, (), (), ()), (place,), (rows[0], ("b",) + rows[1][1:])), True)

    def test_one_name_of_each_kind(self):
        self.check((TWO, (("a", "x", 0, 1, 0, 0),), (("a", "door", (0, 1), 0, 0, 1),), (("a", 3, 4, 1, 1),)), True)

    def test_lists_for_tuples(self):
        self.check(listed(HOUSE), False)
        for path in paths(HOUSE):
            thing = at_path(HOUSE, path)
            if isinstance(thing, tuple):
                self.check(changed(HOUSE, path, list(thing)), False)

    def test_truths_for_numbers(self):
        plan = (net_of(box(0, 0, 4, 4)), (("a", "x", 0, 1, 0, 1),), (("a", "door", (0, 1), 0, 1, 1),),
                (("a", 1, 0, 1, 1),))
        self.check(plan, True)
        found = 0
        for path in paths(plan):
            if type(at_path(plan, path)) is int and at_path(plan, path) in (0, 1):
                found += 1
                self.check(changed(plan, path, bool(at_path(plan, path))), False)
        self.assertGreater(found, 15)

    def test_holds_that_do_not_hold(self):
        for hold, good in ((("a", "x", 0, 2, 5, 5), True), (("a", "x", 0, 2, 6, 9), False),
                           (("a", "x", 0, 2, 0, 4), False),
                           (("a", "y", 0, 1, 8, 8), True), (("a", "y", 0, 1, -8, -8), False)):
            self.check((TWO, (hold,), (), ()), good)
            self.check((TWO, (hold, ("b", "x", 0, 0, 0, 0)), (), ()), good)
            self.check((TWO, (("A", "x", 0, 0, 0, 0), hold), (), ()), False)

    def test_openings_that_do_not_stand(self):
        good = ("a", "door", (0, 2), 0, 0, 2)
        for other, fits in ((("b", "door", (0, 2), 0, 2, 3), True), (("b", "door", (0, 2), 0, 1, 1), False),
                            (("b", "door", (0, 2), 0, 4, 2), False), (("b", "door", (0, 2), 2, 0, 4), False)):
            self.check((TWO, (), (good, other), ()), fits)

    def test_things_that_do_not_fit(self):
        for thing, fits in ((("b", 3, 0, 1, 2), True), (("b", 2, 0, 1, 1), False), (("b", 4, 0, 2, 1), False),
                            (("b", 12, 0, 1, 1), False), (("b", 0, 4, 1, 2), False)):
            self.check((TWO, (), HOUSE[2][:1], (("a", 0, 5, 3, 2), thing)), fits)

    def test_as_many_as_may_be_and_one_more(self):
        for place, rows in ((1, HOLDS), (2, OPENINGS), (3, THINGS)):
            plan = (LONG, (), (), ())
            self.check(changed(plan, (place,), rows[:-1]), True)
            self.check(changed(plan, (place,), rows), False)

    def test_anything(self):
        for thing in STRANGE:
            self.check(thing, False)
            for k in range(4):
                self.check(changed(HOUSE, (k,), thing), thing == () and type(thing) is tuple and k > 0)

    def test_strange_things_in_each_place(self):
        good = 0
        for path in paths(HOUSE)[1:]:
            for thing in STRANGE:
                other = changed(HOUSE, path, thing)
                expected = is_plan_slowly(other)
                good += expected
                self.assertIs(is_plan(other), expected, other)
        self.assertGreater(good, 5)

    def test_numbers_and_texts_somewhat_changed(self):
        good = 0
        for path in paths(HOUSE):
            thing = at_path(HOUSE, path)
            others = [thing + d for d in (-1, 1, -3, 5)] if type(thing) is int else []
            others += [thing + "a", thing[1:], thing.upper()] if isinstance(thing, str) else []
            for other in others:
                new = changed(HOUSE, path, other)
                expected = is_plan_slowly(new)
                good += expected
                self.check(new, expected)
        self.assertGreater(good, 30)

    def test_nothing_is_changed(self):
        for thing in (HOUSE, listed(HOUSE), [[], [], [], []]):
            before = copy.deepcopy(thing)
            is_plan(thing)
            self.assertTrue(same(thing, before))


class WallPutTest(PlanTest):
    def test_apart_from_all(self):
        net, *rest = HOUSE
        self.made((put(net, (20, 0), (20, 9)), *rest), wall_put, HOUSE, (20, 9), (20, 0))
        self.made((put(net, (8, 6), (8, 8)), *rest), wall_put, HOUSE, (8, 6), (8, 8))
        self.made((put(samples.EMPTY, (1, 1), (1, 2)), (), (), ()), wall_put, EMPTY, (1, 1), (1, 2))

    def test_openings_ride(self):
        # The window from 5 at 1 to 4, y from 7 to 4, is in the upper part; the lower one is from 4 to 6.
        new = wall_put(HOUSE, (12, 4), (15, 4))
        self.assertEqual(new[2][2], ("pane", "window", (6, 5), 5, 1, 3))
        new = wall_put(HOUSE, (12, 7), (15, 7))
        self.assertEqual(new[2][2], ("pane", "window", (4, 6), 6, 0, 3))
        self.assertTrue(is_plan(new))
        new = wall_put(HOUSE, (5, 3), (8, 3))
        self.assertEqual(new[2][1], ("inner", "door", (6, 3), 6, 0, 2))
        self.assertEqual((new[1], new[3]), (HOUSE[1], HOUSE[3]))

    def test_holds_and_things_stay(self):
        new = wall_put(HOUSE, (5, 3), (12, 3))
        self.assertEqual((new[1], new[3]), (HOUSE[1], HOUSE[3]))
        self.assertTrue(is_plan(new))

    def test_no_wall(self):
        for one, other in (((0, 0), (0, 5)), ((1, 1), (2, 2)), ((1, 1), (1, 1)), ((0, -1), (0, 9)), ([1, 1], [1, 2])):
            self.refused(NoWall, None, wall_put, HOUSE, one, other)
        for thing in STRANGE:
            self.refused(NoWall, None, wall_put, HOUSE, thing, thing)
            self.refused(NoWall, None, wall_put, EMPTY, (1, 1), thing)

    def test_an_opening_that_is_cut(self):
        self.refused(NoOpening, "front", wall_put, HOUSE, (2, 0), (2, 2))
        self.refused(NoOpening, "inner", wall_put, HOUSE, (0, 4), (12, 4))
        self.refused(NoOpening, "pane", wall_put, HOUSE, (12, 5), (11, 5))

    def test_a_thing_that_is_gone_across(self):
        self.refused(NoThing, "bed", wall_put, HOUSE, (9, 0), (9, 1))
        self.refused(NoThing, "desk", wall_put, HOUSE, (1, 6), (2, 6))
        self.refused(NoThing, "desk", wall_put, HOUSE, (0, 6), (3, 6))
        self.made((put(TWO, (7, 0), (7, 2)), *HOUSE[1:]), wall_put, HOUSE, (7, 0), (7, 2))

    def test_the_order_of_two_that_are_due(self):
        self.refused(NoOpening, "front", wall_put, HOUSE, (2, 0), (2, 8))
        self.refused(NoWall, None, wall_put, HOUSE, (2, 0), (4, 0))
        # Sixty corners: TooMany goes ahead of an opening that is cut, and of a thing.
        net = samples.lattice_net(90, 10)
        plan = (net, (), (("a", "door", (0, 1), 0, 1, 8),), (("a", 11, 12, 8, 7),))
        self.assertTrue(is_plan(plan))
        self.assertEqual(net[0][:2], ((0, 0, 0), (1, 0, 10)))
        self.refused(TooMany, None, wall_put, plan, (0, 5), (3, 5))
        self.refused(TooMany, None, wall_put, plan, (10, 15), (20, 15))
        self.refused(NoWall, None, wall_put, plan, (0, 5), (0, 15))

    def test_as_found_out_slowly(self):
        chance = random.Random(11)
        seen = {}
        for plan in slow.chance_plans():
            wide, high = samples.reach(plan[0])
            for _ in range(6):
                x, y, u, v = [chance.randrange(size + 1) for size in (wide, high) * 2]
                one, other = ((x, y), (x, v)) if chance.randrange(2) else ((x, y), (u, y))
                expected = behind(plan, lambda net: put(net, one, other))
                kind = expected[0] if isinstance(expected[0], type) else tuple
                seen[kind] = seen.get(kind, 0) + 1
                self.told(expected, wall_put, plan, one, other)
        self.assertGreater(min(seen[kind] for kind in (NoWall, NoOpening, NoThing, tuple)), 20, seen)


class WallTakenTest(PlanTest):
    def test_openings_of_it_are_gone(self):
        net, holds, openings, things = HOUSE
        new = take(net, 2, 3)
        for ends in ((2, 3), (3, 2)):
            self.made((new, holds, (openings[0], openings[2]), things), wall_taken, HOUSE, *ends)

    def test_holds_of_corners_that_are_gone_are_gone(self):
        net = net_of(box(0, 0, 9, 9) + [(20, 0, 30, 0), (30, 0, 40, 0)])
        # Corners 4 (20, 0), 5 (30, 0), 6 (40, 0).
        holds = (("a", "x", 0, 4, 20, 20), ("b", "x", 4, 0, -20, 0), ("c", "x", 0, 5, 0, 30), ("d", "x", 5, 6, 0, 90),
                 ("e", "y", 4, 4, 0, 0), ("f", "x", 0, 1, 0, 0))
        plan = (net, holds, (), ())
        self.assertTrue(is_plan(plan))
        self.made((take(net, 4, 5), (holds[2], holds[3], holds[5]), (), ()), wall_taken, plan, 5, 4)
        self.made((take(net, 5, 6), (*holds[:3], holds[4], holds[5]), (), ()), wall_taken, plan, 5, 6)
        self.made((take(net, 0, 1), holds, (), ()), wall_taken, plan, 0, 1)
        lone = (samples.LONE, (("a", "x", 0, 1, 0, 0),), (("a", "door", (0, 1), 0, 0, 4),), ())
        self.made(EMPTY, wall_taken, lone, 0, 1)

    def test_a_thing_that_would_be_outside(self):
        self.refused(NoThing, "desk", wall_taken, HOUSE, 0, 1)
        self.refused(NoThing, "bed", wall_taken, HOUSE, 5, 4)
        merged = wall_taken(HOUSE, 2, 3)
        self.refused(NoThing, "bed", wall_taken, merged, 0, 1)
        self.made((take(TWO, 0, 1), *HOUSE[1:3], HOUSE[3][:1]), wall_taken, changed(HOUSE, (3,), HOUSE[3][:1]), 0, 1)

    def test_no_wall(self):
        for a, b in ((0, 5), (0, 0), (6, 7), (False, True), (0, True), ("0", "1"), ([0], [1])):
            self.refused(NoWall, None, wall_taken, HOUSE, a, b)
        for thing in STRANGE:
            self.refused(NoWall, None, wall_taken, HOUSE, thing, thing)
            self.refused(NoWall, None, wall_taken, EMPTY, 0, thing)

    def test_as_found_out_slowly(self):
        chance = random.Random(12)
        seen = {}
        for plan in slow.chance_plans():
            for a, b in chance.sample(plan[0][1], min(6, len(plan[0][1]))):
                expected = behind(plan, lambda net: take(net, a, b))
                kind = expected[0] if isinstance(expected[0], type) else tuple
                seen[kind] = seen.get(kind, 0) + 1
                self.told(expected, wall_taken, plan, b, a)
        self.assertGreater(min(seen[kind] for kind in (NoThing, tuple)), 20, seen)


class GroupMovedTest(PlanTest):
    def test_as_far_as_it_is_let_by(self):
        for d in (-2, -1, 0, 1, 2):
            new = (move_group(TWO, HOUSE[1], 2, "x", d), *HOUSE[1:])
            self.made(new, group_moved, HOUSE, 2, "x", d)
            self.made(new, group_moved, HOUSE, 3, "x", d)
            self.assertEqual(new[0][0][2], (2, 5 + d, 0))

    def test_a_tied_group(self):
        plan = changed(HOUSE, (3,), ())
        new = move_group(TWO, HOUSE[1], 0, "y", 3)
        self.assertEqual([y for _, _, y in new[0]], [3, 11] * 3)
        self.made((new, *plan[1:]), group_moved, plan, 5, "y", 3)

    def test_no_corner_no_axis_no_move(self):
        for thing in STRANGE:
            if not same(thing, 1):
                self.refused(NoCorner, None, group_moved, HOUSE, thing, "x", 1)
                self.refused(NoCorner, None, group_moved, HOUSE, thing, thing, 1)
            self.refused(NoAxis, None, group_moved, HOUSE, 1, thing, 1)
        for c in (6, -1, True, False, "0", None):
            self.refused(NoCorner, None, group_moved, HOUSE, c, "z", 10 ** 30)
        self.refused(NoAxis, None, group_moved, HOUSE, 0, "z", 10 ** 30)
        for d in (-5, -6, 7, 8, MOST, 10 ** 30, -10 ** 30):
            self.refused(NoMove, None, group_moved, HOUSE, 2, "x", d)
        self.refused(NoCorner, None, group_moved, EMPTY, 0, "x", 1)

    def test_held_then_openings_then_things(self):
        # By -3 the hold would not hold, the front door not stand, and the wall go through the desk.
        self.refused(Held, "mid", group_moved, HOUSE, 2, "x", -3)
        free = changed(HOUSE, (1,), HOUSE[1][:1])
        self.refused(NoOpening, "front", group_moved, free, 2, "x", -3)
        shut = changed(free, (2,), HOUSE[2][1:])
        self.refused(NoThing, "desk", group_moved, shut, 2, "x", -3)
        bare = changed(shut, (3,), HOUSE[3][:1])
        self.made((move_group(TWO, (), 2, "x", -3), *bare[1:]), group_moved, bare, 2, "x", -3)
        # And as far as something stands in its way, that goes first.
        self.refused(NoMove, None, group_moved, HOUSE, 2, "x", -5)

    def test_the_first_by_names(self):
        holds = (("a", "x", 0, 2, 0, 9), ("b", "x", 2, 4, 7, 9), ("ba", "x", 0, 2, 5, 6))
        plan = (TWO, holds, (("a", "door", (0, 2), 2, 0, 5), ("b", "door", (1, 3), 1, 0, 5)), ())
        self.refused(Held, "ba", group_moved, plan, 2, "x", -1)
        self.refused(Held, "b", group_moved, plan, 2, "x", 2)
        self.refused(NoOpening, "a", group_moved, (plan[0], (), *plan[2:]), 2, "x", -1)
        self.refused(NoOpening, "b", group_moved, (plan[0], (), plan[2][1:], ()), 2, "x", -1)

    def test_a_door_that_comes_ahead_of_a_thing(self):
        # Its places go with it: at 6 they are from 4 to 8.
        thing = ("a", 7, 3, 2, 2)
        plan = (TWO, (), HOUSE[2][1:2], (thing,))
        self.refused(NoThing, "a", group_moved, plan, 2, "x", 1)
        self.made((move_group(TWO, (), 2, "x", -1), *plan[1:]), group_moved, plan, 2, "x", -1)
        # One that is measured from the upper end stays there, one from the lower end goes along.
        plan = (TWO, (), (("a", "door", (2, 3), 3, 1, 2),), (("b", 3, 1, 2, 2),))
        self.made((move_group(TWO, (), 0, "y", 1), *plan[1:]), group_moved, plan, 0, "y", 1)
        plan = (TWO, (), (("a", "door", (2, 3), 2, 4, 2),), (("b", 3, 6, 2, 2),))
        self.refused(NoThing, "b", group_moved, plan, 0, "y", 1)

    def test_a_thing_that_would_be_outside(self):
        self.refused(NoThing, "bed", group_moved, HOUSE, 0, "y", 1)

    def test_as_found_out_slowly(self):
        chance = random.Random(13)
        seen = {}
        for plan in slow.chance_plans():
            for c, _, _ in chance.sample(plan[0][0], min(8, len(plan[0][0]))):
                axis, d = chance.choice("xy"), chance.choice([-3, -2, -1, -1, 1, 1, 2, 3])
                # With few holds, else nearly all is held.
                kept = (plan[0], plan[1][:chance.choice([0, 0, 1, 2, 20])], *plan[2:])
                expected = behind(kept, lambda net: move_group(net, kept[1], c, axis, d))
                kind = expected[0] if isinstance(expected[0], type) else tuple
                seen[kind] = seen.get(kind, 0) + 1
                self.told(expected, group_moved, kept, c, axis, d)
        self.assertGreater(min(seen[kind] for kind in (NoMove, Held, NoOpening, NoThing, tuple)), 20, seen)


class HoldTest(PlanTest):
    def test_put_and_put_in_its_place(self):
        for hold, rows in (
            (("a", "x", 0, 4, 12, 12), lambda own: (("a", "x", 0, 4, 12, 12), *own)),
            (("hj", "x", 0, 4, 0, 12), lambda own: (own[0], ("hj", "x", 0, 4, 0, 12), own[1])),
            (("zz", "y", 3, 2, -8, -8), lambda own: (*own, ("zz", "y", 3, 2, -8, -8))),
            (("mid", "y", 3, 2, -8, -8), lambda own: (own[0], ("mid", "y", 3, 2, -8, -8))),
            (("mid", "x", 0, 2, 3, 7), lambda own: own),
        ):
            self.made(changed(HOUSE, (1,), rows(HOUSE[1])), hold_put, HOUSE, hold)

    def test_no_hold(self):
        for thing in STRANGE:
            self.refused(NoHold, None, hold_put, HOUSE, thing)
            self.refused(NoHold, None, hold_put, EMPTY, thing)
        for hold in (("a", "z", 0, 1, 0, 9), ("A", "x", 0, 1, 0, 9), ("a", "x", 0, 9, 0, 9), ("a", "x", 0, 1, 9, 0),
                     ["a", "x", 0, 1, 0, 9], ("a", "x", False, 1, 0, 9), ("a", "x", 0, 1, 0), HOUSE[2][0], HOUSE[3][0],
                     ("mid", "x", 0, 1, -MOST - 1, 0)):
            self.refused(NoHold, None, hold_put, HOUSE, hold)
        self.refused(NoHold, None, hold_put, EMPTY, ("a", "x", 0, 0, 0, 0))

    def test_held(self):
        self.refused(Held, "a", hold_put, HOUSE, ("a", "x", 0, 2, 6, 7))
        self.refused(Held, "mid", hold_put, HOUSE, ("mid", "x", 0, 2, 0, 4))

    def test_thirty_and_one_more(self):
        self.made(FULL, hold_put, changed(FULL, (1,), HOLDS[:29]), HOLDS[29])
        self.refused(TooMany, None, hold_put, FULL, HOLDS[30])
        # In the place of one there aren't more.
        other = HOLDS[7][:4] + (-5, 500)
        self.made(changed(FULL, (1, 7), other), hold_put, FULL, other)

    def test_the_order_of_two_that_are_due(self):
        self.refused(TooMany, None, hold_put, FULL, HOLDS[30][:4] + (500, 501))
        self.refused(NoHold, None, hold_put, FULL, HOLDS[30][:4] + (501, 500))
        self.refused(Held, HOLDS[3][0], hold_put, FULL, HOLDS[3][:4] + (500, 501))

    def test_taken(self):
        self.made(changed(HOUSE, (1,), HOUSE[1][1:]), hold_taken, HOUSE, "high")
        self.made(changed(HOUSE, (1,), HOUSE[1][:1]), hold_taken, HOUSE, "mid")

    def test_no_name(self):
        for name in ("a", "", "front", "pane", "bed", "hig", "highs", "MID", HOUSE[1][0], ("mid",), ["mid"]):
            self.refused(NoName, None, hold_taken, HOUSE, name)
        for thing in STRANGE:
            self.refused(NoName, None, hold_taken, HOUSE, thing)
            self.refused(NoName, None, hold_taken, EMPTY, thing)


class OpeningTest(PlanTest):
    def test_put_and_put_in_its_place(self):
        for opening, rows in (
            (("a", "door", (1, 3), 1, 3, 1), lambda own: (("a", "door", (1, 3), 1, 3, 1), *own)),
            (("hall", "window", (0, 2), 0, 3, 2), lambda own: (own[0], ("hall", "window", (0, 2), 0, 3, 2), *own[1:])),
            (("front", "window", (0, 2), 0, 0, 5), lambda own: (("front", "window", (0, 2), 0, 0, 5), *own[1:])),
            (("pane", "door", (2, 4), 2, 0, 1), lambda own: (*own[:2], ("pane", "door", (2, 4), 2, 0, 1))),
            (("inner", "door", (2, 3), 2, 3, 2), lambda own: own),
        ):
            self.made(changed(HOUSE, (2,), rows(HOUSE[2])), opening_put, HOUSE, opening)

    def test_no_opening(self):
        for thing in STRANGE:
            self.refused(NoOpening, None, opening_put, HOUSE, thing)
            self.refused(NoOpening, None, opening_put, EMPTY, thing)
        for opening in (("a", "gate", (0, 1), 0, 1, 1), ("a", "door", (1, 0), 0, 1, 1), ("a", "door", (0, 1), 2, 1, 1),
                        ("a", "door", (0, 5), 0, 1, 1), ["a", "door", (0, 1), 0, 1, 1], ("a", "door", [0, 1], 0, 1, 1),
                        ("a", "door", (0, 1), 0, 1, 0), ("a", "door", (0, 1), 0, -1, 1), HOUSE[1][0], HOUSE[3][0]):
            self.refused(NoOpening, None, opening_put, HOUSE, opening)

    def test_it_would_not_stand(self):
        self.refused(NoOpening, "a", opening_put, HOUSE, ("a", "window", (0, 2), 0, 4, 2))
        # Both would not stand: the first by names is told.
        self.refused(NoOpening, "front", opening_put, HOUSE, ("zz", "window", (0, 2), 0, 2, 1))
        self.refused(NoOpening, "a", opening_put, HOUSE, ("a", "window", (0, 2), 0, 2, 1))
        self.refused(NoOpening, "front", opening_put, HOUSE, ("front", "door", (0, 2), 0, 4, 2))

    def test_a_thing_ahead_of_a_door(self):
        self.refused(NoThing, "bed", opening_put, HOUSE, ("a", "door", (2, 4), 2, 3, 1))
        self.refused(NoThing, "desk", opening_put, HOUSE, ("a", "door", (0, 1), 1, 0, 4))
        self.refused(NoThing, "bed", opening_put, changed(HOUSE, (3, 1), ("desk", 5, 0, 1, 1)),
                     ("a", "door", (2, 4), 2, 0, 7))
        self.made(changed(HOUSE, (2,), (("a", "window", (2, 4), 2, 3, 1), *HOUSE[2])), opening_put, HOUSE,
                  ("a", "window", (2, 4), 2, 3, 1))

    def test_forty_and_one_more(self):
        self.made(FULL, opening_put, changed(FULL, (2,), OPENINGS[:39]), OPENINGS[39])
        self.refused(TooMany, None, opening_put, FULL, OPENINGS[40])
        other = OPENINGS[7][:5] + (1,)
        self.made(changed(FULL, (2, 7), other), opening_put, FULL, other)

    def test_the_order_of_two_that_are_due(self):
        # Not made; too many; does not stand; a thing ahead of it.
        self.refused(NoOpening, None, opening_put, FULL, OPENINGS[40][:5] + (0,))
        self.refused(TooMany, None, opening_put, FULL, OPENINGS[40][:5] + (90,))
        self.refused(TooMany, None, opening_put, FULL, (OPENINGS[40][0], "door", (2, 3), 2, 0, 10))
        last = OPENINGS[39][0]
        self.refused(NoOpening, last, opening_put, FULL, (last, "door", (2, 3), 2, 0, 11))
        self.refused(NoThing, THINGS[0][0], opening_put, FULL, (last, "door", (2, 3), 2, 0, 10))

    def test_taken(self):
        for k in range(3):
            self.made(changed(HOUSE, (2,), HOUSE[2][:k] + HOUSE[2][k + 1:]), opening_taken, HOUSE, HOUSE[2][k][0])

    def test_no_name(self):
        for name in ("a", "", "mid", "high", "bed", "door", "FRONT", HOUSE[2][0], ("front",), ["front"]):
            self.refused(NoName, None, opening_taken, HOUSE, name)
        for thing in STRANGE:
            self.refused(NoName, None, opening_taken, HOUSE, thing)
            self.refused(NoName, None, opening_taken, EMPTY, thing)


class ThingTest(PlanTest):
    def test_put_and_put_in_its_place(self):
        for thing, rows in (
            (("a", 5, 0, 1, 1), lambda own: (("a", 5, 0, 1, 1), *own)),
            (("chair", 5, 5, 7, 3), lambda own: (own[0], ("chair", 5, 5, 7, 3), own[1])),
            (("bed", 7, 1, 4, 2), lambda own: (("bed", 7, 1, 4, 2), own[1])),
            (("desk", 7, 3, 5, 2), lambda own: (own[0], ("desk", 7, 3, 5, 2))),
            (("desk", 0, 5, 3, 2), lambda own: own),
        ):
            self.made(changed(HOUSE, (3,), rows(HOUSE[3])), thing_put, HOUSE, thing)

    def test_no_thing(self):
        for thing in STRANGE:
            self.refused(NoThing, None, thing_put, HOUSE, thing)
            self.refused(NoThing, None, thing_put, EMPTY, thing)
        for thing in (("A", 0, 0, 1, 1), ("a", -1, 0, 1, 1), ("a", 0, 0, 0, 1), ("a", 0, 0, 1, MOST + 1),
                      ["a", 0, 0, 1, 1],
                      ("a", True, 0, 1, 1), ("a", 0, 0, 1), HOUSE[1][0], HOUSE[2][0]):
            self.refused(NoThing, None, thing_put, HOUSE, thing)

    def test_it_would_not_fit(self):
        for oblong in ((4, 0, 2, 1), (12, 0, 1, 1), (1, 0, 1, 1), (6, 4, 1, 1), (0, 0, MOST, MOST), (MOST, MOST, 1, 1)):
            self.refused(NoThing, "a", thing_put, HOUSE, ("a", *oblong))
        self.refused(NoThing, "bed", thing_put, HOUSE, ("zz", 10, 2, 1, 1))
        self.refused(NoThing, "a", thing_put, HOUSE, ("a", 10, 2, 1, 1))
        self.refused(NoThing, "bed", thing_put, HOUSE, ("bed", 0, 5, 1, 1))
        self.refused(NoThing, "a", thing_put, EMPTY, ("a", 0, 0, 1, 1))

    def test_thirty_and_one_more(self):
        self.made(FULL, thing_put, changed(FULL, (3,), THINGS[:29]), THINGS[29])
        self.refused(TooMany, None, thing_put, FULL, THINGS[30])
        other = THINGS[7][:4] + (1,)
        self.made(changed(FULL, (3, 7), other), thing_put, FULL, other)

    def test_the_order_of_two_that_are_due(self):
        self.refused(NoThing, None, thing_put, FULL, THINGS[30][:4] + (0,))
        self.refused(TooMany, None, thing_put, FULL, THINGS[30][:4] + (90,))
        self.refused(NoThing, THINGS[4][0], thing_put, FULL, THINGS[4][:4] + (90,))

    def test_taken(self):
        self.made(changed(HOUSE, (3,), HOUSE[3][1:]), thing_taken, HOUSE, "bed")
        self.made(changed(HOUSE, (3,), HOUSE[3][:1]), thing_taken, HOUSE, "desk")

    def test_no_name(self):
        for name in ("a", "", "mid", "front", "pane", "BED", "be", "beds", HOUSE[3][0], ("bed",), ["bed"]):
            self.refused(NoName, None, thing_taken, HOUSE, name)
        for thing in STRANGE:
            self.refused(NoName, None, thing_taken, HOUSE, thing)
            self.refused(NoName, None, thing_taken, EMPTY, thing)


class ChanceTest(PlanTest):
    def test_rows_put_and_taken_as_found_out_slowly(self):
        chance = random.Random(14)
        makers = (None, slow.chance_hold, slow.chance_opening, slow.chance_thing)
        seen = {}
        for plan in slow.chance_plans():
            for place in (1, 2, 3):
                if not plan[0][1]:
                    continue
                own = [row[0] for row in plan[place]]
                for name in [chance.choice(own + names(30)) for _ in range(10)]:
                    row = makers[place](chance, plan[0], name)
                    if place == 1 and row[4] > row[5]:
                        continue
                    expected = with_row(plan, place, row)
                    kind = (place, expected[0] if isinstance(expected[0], type) else tuple)
                    seen[kind] = seen.get(kind, 0) + 1
                    self.told(expected, (None, hold_put, opening_put, thing_put)[place], plan, row)
                name = chance.choice(own + ["nobody"])
                taken = (None, hold_taken, opening_taken, thing_taken)[place]
                self.told(without_row(plan, place, name), taken, plan, name)
        wanted = [(1, tuple), (1, Held), (2, tuple), (2, NoOpening), (2, NoThing), (3, tuple), (3, NoThing)]
        self.assertGreater(min(seen[kind] for kind in wanted), 15, seen)

    def test_deeds_one_behind_another(self):
        done = 0
        for seed in range(8):
            chance = random.Random(seed)
            plan = EMPTY
            for _ in range(60):
                deed, handed = chance_deed(chance, plan)
                try:
                    plan = deed(plan, *handed)
                    done += 1
                except PlanError:
                    continue
                self.assertTrue(is_plan_slowly(plan))
                self.assertTrue(is_plan(plan))
        self.assertGreater(done, 200)


def chance_deed(chance, plan):
    """A deed and what is handed in behind the plan, by chance."""
    net = plan[0]
    what = chance.randrange(10)
    if what < 3 or not net[1]:
        x, y, u = [chance.randrange(13) for _ in range(3)]
        return wall_put, ((x, y), (u, y)) if chance.randrange(2) else ((x, y), (x, u))
    if what == 3:
        return wall_taken, chance.choice(net[1])
    if what == 4:
        return group_moved, (chance.choice(net[0])[0], chance.choice("xy"), chance.choice([-2, -1, 1, 2]))
    if what == 9:
        place = chance.choice([1, 2, 3])
        name = chance.choice([row[0] for row in plan[place]] + ["nobody"])
        return (None, hold_taken, opening_taken, thing_taken)[place], (name,)
    place = what % 3 + 1
    row = (None, slow.chance_hold, slow.chance_opening, slow.chance_thing)[place](chance, net, chance.choice(names(20)))
    return (None, hold_put, opening_put, thing_put)[place], (row,)


class NamesTest(unittest.TestCase):
    def test_all_is_there(self):
        for name in ("EMPTY", "is_plan", "look_plan", "wall_put", "wall_taken", "group_moved", "hold_put",
                     "opening_put",
                     "thing_put", "hold_taken", "opening_taken", "thing_taken"):
            self.assertTrue(hasattr(plans, name))
