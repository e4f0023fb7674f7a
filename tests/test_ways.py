"""Ways out [2, 3, 27, 28]."""

import copy
import itertools
import unittest

from tests import samples, slow
from tests.samples import STRANGE, box, changed, listed, net_of, same
from tests.slow import HOUSE, TWO, depths_slowly, leads_slowly, names
from wallplan.plans import EMPTY, is_plan
from wallplan.rooms import rooms
from wallplan.ways import are_depths, depths, leads, ways

# A row of four rooms, each 10 wide and high: upright walls (0, 1), (2, 3), (4, 5), (6, 7), (8, 9), level ones between.
ROW = net_of(samples.lattice(range(0, 50, 10), (0, 10)))


def row_plan(*doors):
    """The plan of the row with doors (name, wall, width)."""
    plan = (ROW, (), tuple(sorted((name, "door", wall, wall[0], 1, width) for name, wall, width in doors)), ())
    assert is_plan(plan)
    return plan


# Outside - a (3) - 0 - b (2) - 1 - c (1) - 2 - d (2) - 3, and 3 is shut to outside.
CHAIN = row_plan(("a", (0, 1), 3), ("b", (2, 3), 2), ("c", (4, 5), 1), ("d", (6, 7), 2))


class LeadsTest(unittest.TestCase):
    def check(self, plan, expected):
        for _ in range(2):
            self.assertTrue(same(leads(plan), expected), leads(plan))
        self.assertEqual(leads_slowly(plan), expected)

    def test_without_doors(self):
        self.check(EMPTY, ())
        self.check((TWO, (), (), ()), ())
        self.check((TWO, (), (("a", "window", (0, 1), 0, 0, 1), ("b", "window", (2, 3), 2, 0, 1)), ()), ())

    def test_windows_are_not_told(self):
        self.check(HOUSE, (("front", -1, 0), ("inner", 0, 1)))

    def test_between_rooms_and_outside_on_upright_and_level_walls(self):
        for wall, expected in (((0, 1), (-1, 0)), ((0, 2), (-1, 0)), ((1, 3), (-1, 0)), ((2, 3), (0, 1)),
                               ((2, 4), (-1, 1)), ((3, 5), (-1, 1)), ((4, 5), (-1, 1))):
            for end in wall:
                self.check((TWO, (), (("a", "door", wall, end, 1, 2),), ()), (("a", *expected),))

    def test_the_lesser_one_first_wherever_it_lies(self):
        # The room to the east has the lesser number.
        net = net_of(samples.lattice(range(0, 30, 10), (0, 10)), (8, 9, 0, 1, 4, 5))
        self.assertEqual([ring[0] for ring, _, _ in rooms(net)], [0, 0])
        for wall in net[1]:
            plan = (net, (), (("a", "door", wall, wall[0], 0, 1),), ())
            self.check(plan, leads_slowly(plan))
            self.assertLessEqual(leads(plan)[0][1], leads(plan)[0][2])

    def test_within_one_room_or_outside_alone(self):
        self.check((samples.LONE, (), (("a", "door", (0, 1), 0, 0, 1),), ()), (("a", -1, -1),))
        net = net_of(box(0, 0, 9, 9) + [(3, 3, 3, 6)])
        self.check((net, (), (("a", "door", (2, 3), 2, 0, 1),), ()), (("a", 0, 0),))

    def test_rooms_within_rooms(self):
        # The walls of the rooms within one another.
        plan = (samples.NEST, (), (
            ("a", "door", (6, 7), 6, 0, 1), ("b", "door", (4, 5), 4, 0, 1), ("c", "door", (2, 10), 2, 0, 1),
            ("d", "door", (0, 1), 0, 0, 1)
        ), ())
        self.check(plan, (("a", 2, 2), ("b", 1, 2), ("c", 0, 1), ("d", -1, 0)))
        beside = (samples.BESIDE, (), (("a", "door", (2, 3), 2, 0, 1), ("b", "door", (0, 1), 0, 0, 1)), ())
        self.check(beside, (("a", 0, 1), ("b", -1, 0)))

    def test_rising(self):
        plan = (TWO, (),
                (("a", "door", (2, 3), 2, 0, 1), ("aa", "door", (0, 1), 0, 0, 1), ("b", "door", (4, 5), 4, 0, 1),
                          ("ba", "door", (2, 3), 2, 4, 1)), ())
        self.check(plan, (("a", 0, 1), ("aa", -1, 0), ("b", -1, 1), ("ba", 0, 1)))

    def test_as_cell_by_cell(self):
        for plan in slow.door_plans() + slow.chance_plans():
            self.check(plan, leads_slowly(plan))


class DepthsTest(unittest.TestCase):
    def check(self, plan, w, expected):
        """These are the depths, shown to be so; and each way goes outside by as many doors, all wide enough."""
        for _ in range(2):
            self.assertTrue(same(depths(plan, w), expected), (depths(plan, w), expected))
            self.assertIs(are_depths(plan, w, expected), True)
            told = ways(plan, w)
            self.assertTrue(same(ways(plan, w), told))
        self.assertIs(type(told), tuple)
        self.assertEqual(len(told), len(expected))
        doors = {name: (one, other) for name, one, other in leads(plan)}
        widths = {opening[0]: opening[5] for opening in plan[2]}
        for room, (way, depth) in enumerate(zip(told, expected)):
            if depth is None:
                self.assertIsNone(way)
                continue
            self.assertIs(type(way), tuple)
            self.assertEqual(len(way), depth)
            place = room
            for name in way:
                self.assertIn(place, doors[name])
                self.assertGreaterEqual(widths[name], w)
                one, other = doors[name]
                place = other if place == one else one
            self.assertEqual(place, -1)

    def test_no_rooms(self):
        self.check(EMPTY, 1, ())
        self.check((samples.LONE, (), (("a", "door", (0, 1), 0, 0, 1),), ()), 1, ())

    def test_a_house(self):
        self.check(HOUSE, 1, (1, 2))
        self.check(HOUSE, 2, (1, 2))
        self.check(HOUSE, 3, (None, None))
        self.assertEqual(ways(HOUSE, 2), (("front",), ("inner", "front")))
        self.assertEqual(ways(HOUSE, 3), (None, None))

    def test_wide_enough_and_not(self):
        self.check(CHAIN, 1, (1, 2, 3, 4))
        self.check(CHAIN, 2, (1, 2, None, None))
        self.check(CHAIN, 3, (1, None, None, None))
        self.check(CHAIN, 4, (None, None, None, None))
        self.check(CHAIN, 10 ** 7, (None, None, None, None))
        self.assertEqual(ways(CHAIN, 1)[3], ("d", "c", "b", "a"))

    def test_the_least_number_goes(self):
        both = row_plan(("a", (0, 1), 3), ("b", (2, 3), 2), ("c", (4, 5), 1), ("d", (6, 7), 2), ("e", (8, 9), 1))
        self.check(both, 1, (1, 2, 2, 1))
        self.check(both, 2, (1, 2, None, None))
        self.check(row_plan(("b", (2, 3), 2), ("c", (4, 5), 1), ("d", (6, 7), 2), ("e", (8, 9), 1)), 1, (4, 3, 2, 1))
        # Straight outside from the third room, by a level wall.
        self.check(row_plan(("a", (0, 1), 3), ("b", (2, 3), 2), ("c", (4, 5), 1), ("d", (6, 7), 2), ("e", (4, 6), 1)),
                   1,
                   (1, 2, 1, 2))

    def test_two_doors_to_one_place(self):
        plan = (TWO, (),
                (("a", "door", (0, 1), 0, 0, 1), ("b", "door", (0, 1), 0, 3, 2), ("c", "door", (2, 3), 2, 0, 3),
                          ("d", "door", (2, 3), 2, 3, 1)), ())
        self.check(plan, 1, (1, 2))
        self.check(plan, 2, (1, 2))
        self.assertEqual(ways(plan, 2), (("b",), ("c", "b")))
        self.check(plan, 3, (None, None))

    def test_windows_and_doors_that_lead_nowhere_do_not_help(self):
        net = net_of(box(0, 0, 9, 9) + [(3, 3, 3, 6), (20, 0, 20, 5)])
        plan = (net, (),
                (("a", "window", (0, 1), 0, 0, 1), ("b", "door", (2, 3), 2, 0, 1), ("c", "door", (6, 7), 6, 0, 1)),
                ())
        self.assertTrue(is_plan(plan))
        self.check(plan, 1, (None,))

    def test_rooms_within_rooms(self):
        doors = (("a", "door", (4, 5), 4, 0, 2), ("b", "door", (2, 10), 2, 0, 1), ("c", "door", (0, 1), 0, 0, 3))
        self.check((samples.NEST, (), doors, ()), 1, (1, 2, 3))
        self.check((samples.NEST, (), doors, ()), 2, (1, None, None))
        self.check((samples.NEST, (), doors[:2], ()), 1, (None, None, None))

    def test_many_rooms(self):
        net = net_of(samples.lattice(range(0, 60, 2), (0, 2))[:88])
        self.assertEqual(len(rooms(net)), 29)
        walls = [(2 * k, 2 * k + 1) for k in range(29)]
        doors = tuple((name, "door", wall, wall[1], 0, 2) for name, wall in zip(names(29), walls))
        self.check((net, (), doors, ()), 2, tuple(range(1, 30)))
        self.check((net, (), doors[:9] + doors[10:], ()), 1, tuple(range(1, 10)) + (None,) * 20)

    def test_as_found_out_slowly(self):
        seen = {}
        for plan in slow.door_plans() + slow.chance_plans()[::3]:
            for w in (1, 2, 4):
                expected = depths_slowly(plan, w)
                for depth in expected:
                    seen[depth] = seen.get(depth, 0) + 1
                self.check(plan, w, expected)
        self.assertGreater(min(seen[depth] for depth in (None, 1, 2, 3)), 20, seen)


class AreDepthsTest(unittest.TestCase):
    def no(self, plan, w, thing):
        for _ in range(2):
            self.assertIs(are_depths(plan, w, thing), False, thing)

    def test_one_more_or_less_nought_none_or_another_kind(self):
        for plan in (CHAIN, HOUSE) + slow.door_plans()[::3]:
            for w in (1, 2):
                told = depths(plan, w)
                self.assertIs(are_depths(plan, w, told), True)
                for room, depth in enumerate(told):
                    others = [0, -1, True, False, "", "1", (), (1,), [1], 10 ** 30]
                    others += [1, 2, 3] if depth is None else [depth + 1, depth - 1, depth + 2, None, str(depth),
                                                               [depth]]
                    for other in others:
                        if not same(other, depth):
                            self.no(plan, w, changed(told, (room,), other))

    def test_a_truth_for_one(self):
        self.assertIs(are_depths(HOUSE, 1, (1, 2)), True)
        self.no(HOUSE, 1, (True, 2))

    def test_one_left_out_or_more(self):
        for plan in (CHAIN, HOUSE) + slow.door_plans():
            told = depths(plan, 1)
            if told:
                self.no(plan, 1, told[1:])
                self.no(plan, 1, told[:-1])
            for more in (None, 1, 0, 2):
                self.no(plan, 1, told + (more,))
            self.no(plan, 1, list(told))
            self.no(plan, 1, (told,))
            self.no(plan, 1, listed((told,)))

    def test_anything(self):
        for thing in STRANGE:
            self.no(CHAIN, 1, thing)
            if not same(thing, (None,)):
                self.no((samples.SQUARE, (), (), ()), 1, thing)
            if not same(thing, ()):
                self.no(EMPTY, 1, thing)
            self.assertIs(are_depths(EMPTY, 1, ()), True)

    def test_all_tuples_of_small_numbers(self):
        asked = 0
        for plan in slow.door_plans() + (CHAIN, HOUSE):
            many = len(rooms(plan[0]))
            if many <= 3 or plan == CHAIN:
                for w in (1, 2):
                    expected = depths_slowly(plan, w)
                    for thing in itertools.product((None, 1, 2, 3, 4), repeat=many):
                        asked += 1
                        self.assertIs(are_depths(plan, w, thing), thing == expected)
        self.assertGreater(asked, 2000)

    def test_numbers_that_rise_without_end(self):
        # Two rooms with a door between them and none to outside: each shows the other one, but never outside.
        plan = (TWO, (), HOUSE[2][1:2], ())
        self.assertIs(are_depths(plan, 1, (None, None)), True)
        for one in range(1, 5):
            for other in (one - 1, one, one + 1, None):
                self.no(plan, 1, (one, other))
                self.no(plan, 1, (other, one))

    def test_nothing_is_changed(self):
        for thing in ([1, 2], (1, 2), [[1], 2]):
            before = copy.deepcopy((HOUSE, thing))
            are_depths(HOUSE, 1, thing)
            self.assertTrue(same((HOUSE, thing), before))
