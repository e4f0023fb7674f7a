"""What is changed [2, 29, 30]."""

import copy
import random
import unittest

from tests import samples, slow
from tests.samples import box, changed as exchanged, is_plain, net_of, same, turned
from tests.slow import HOUSE, TWO, common_slowly
from wallplan.changes import changed, common
from wallplan.errors import PlanError
from wallplan.moves import move
from wallplan.plans import EMPTY, group_moved, wall_put, wall_taken
from wallplan.rooms import rooms
from wallplan.walls import put, take

MOST = 10 ** 6


def areas(net):
    return [area for _, _, area in rooms(net)]


class CommonTest(unittest.TestCase):
    def check(self, net, other, expected):
        """So it is, and the other way about; and the cells of each room come to its area."""
        about = tuple(sorted((j, i, cells) for i, j, cells in expected))
        for _ in range(2):
            self.assertTrue(same(common(net, other), expected), (common(net, other), expected))
            self.assertTrue(same(common(other, net), about))
        self.assertTrue(is_plain(expected))
        for place, own in ((0, net), (1, other)):
            for number, area in enumerate(areas(own)):
                self.assertEqual(sum(row[2] for row in expected if row[place] == number), area)
        self.assertNotIn((-1, -1), [row[:2] for row in expected])

    def test_nets_without_walls_or_rooms(self):
        self.check(samples.EMPTY, samples.EMPTY, ())
        self.check(samples.LONE, samples.EMPTY, ())
        self.check(samples.LONE, turned(samples.LONE), ())

    def test_a_net_with_itself(self):
        for net in list(samples.NAMED.values()) + samples.chance_nets()[::5] + samples.great_nets():
            self.check(net, net, tuple((number, number, area) for number, area in enumerate(areas(net))))

    def test_with_the_net_without_walls(self):
        for net in list(samples.NAMED.values()) + samples.great_nets():
            self.check(net, samples.EMPTY, tuple((number, -1, area) for number, area in enumerate(areas(net))))

    def test_a_wall_put_and_taken(self):
        self.check(samples.SQUARE, put(samples.SQUARE, (1, 0), (1, 3)), ((0, 0, 3), (0, 1, 9)))
        self.check(TWO, take(TWO, 2, 3), ((0, 0, 40), (1, 0, 56)))
        self.check(TWO, take(TWO, 0, 1), ((0, -1, 40), (1, 0, 56)))
        self.check(TWO, take(TWO, 4, 5), ((0, 0, 40), (1, -1, 56)))
        # A wall that ends freely changes no cells.
        self.check(TWO, put(TWO, (2, 0), (2, 5)), ((0, 0, 40), (1, 1, 56)))

    def test_a_wall_moved(self):
        self.check(TWO, move(TWO, 2, "x", 2), ((0, 0, 40), (1, 0, 16), (1, 1, 40)))
        self.check(TWO, move(TWO, 2, "x", -1), ((0, 0, 32), (0, 1, 8), (1, 1, 56)))
        self.check(TWO, move(TWO, 4, "x", 3), ((-1, 1, 24), (0, 0, 40), (1, 1, 56)))
        self.check(TWO, move(TWO, 0, "y", 3), ((0, -1, 15), (0, 0, 25), (1, -1, 21), (1, 1, 35)))

    def test_nets_that_have_nothing_in_common(self):
        one, other = net_of(box(0, 0, 4, 4)), net_of(box(4, 0, 9, 2) + box(20, 20, 21, 21))
        self.check(one, other, ((-1, 0, 10), (-1, 1, 1), (0, -1, 16)))
        self.check(one, net_of(box(4, 4, 5, 5)), ((-1, 0, 1), (0, -1, 16)))

    def test_rooms_across_one_another(self):
        # A room from (0, 3) to (9, 6) and one from (3, 0) to (6, 9).
        self.check(net_of(box(0, 3, 9, 6)), net_of(box(3, 0, 6, 9)), ((-1, 0, 18), (0, -1, 18), (0, 0, 9)))
        # One within the other one's room, which has a part within again.
        self.check(samples.NEST, net_of(box(1, 1, 6, 6)), ((0, -1, 176 - 13), (0, 0, 13), (1, -1, 124 - 11), (1, 0, 11),
                                                           (2, -1, 99), (2, 0, 1)))

    def test_rooms_numbered_otherwise(self):
        one = net_of(samples.lattice((0, 5, 9), (0, 4)))
        other = net_of(samples.lattice((0, 5, 9), (0, 4)), (5, 4, 3, 2, 1, 0))
        self.assertEqual((areas(one), areas(other)), ([20, 16], [16, 20]))
        self.check(one, other, ((0, 1, 20), (1, 0, 16)))

    def test_great_numbers(self):
        whole = net_of(box(0, 0, MOST, MOST))
        self.check(whole, put(whole, (1, 0), (1, MOST)), ((0, 0, MOST), (0, 1, MOST * (MOST - 1))))
        self.check(whole, net_of(box(MOST - 1, MOST - 1, MOST, MOST)), ((0, -1, MOST * MOST - 1), (0, 0, 1)))
        for net in samples.great_nets():
            numbers = [(i, j) for i, j, _ in common(net, turned(net))]
            self.assertEqual(len(set(numbers)), len(numbers))
            self.check(net, turned(net), common(net, turned(net)))

    def test_as_cell_by_cell(self):
        chance = random.Random(16)
        nets = [plan[0] for plan in slow.chance_plans()]
        for net in nets:
            for other in (chance.choice(nets), turned(net)):
                self.check(net, other, common_slowly(net, other))


class ChangedTest(unittest.TestCase):
    def check(self, plan, other, expected):
        """So it is, twice; and the other way about the pairs are turned about."""
        pairs, *named = expected
        about = (tuple(sorted((j, i, new, old) for i, j, old, new in pairs)), *named)
        for _ in range(2):
            self.assertTrue(same(changed(plan, other), expected), (changed(plan, other), expected))
            self.assertTrue(same(changed(other, plan), about))

    def test_nothing_of_a_plan_and_itself(self):
        for plan in (EMPTY, HOUSE) + slow.chance_plans():
            self.check(plan, plan, ((), (), (), ()))

    def test_from_nothing(self):
        self.check(EMPTY, HOUSE, (((-1, 0, 0, 40), (-1, 1, 0, 56)), ("high", "mid"), ("front", "inner", "pane"),
                                  ("bed", "desk")))

    def test_a_wall_put_taken_and_moved(self):
        self.check(HOUSE, wall_put(HOUSE, (5, 3), (12, 3)),
                   (((1, 1, 56, 21), (1, 2, 56, 35)), (), ("inner", "pane"), ()))
        self.check(HOUSE, wall_taken(HOUSE, 2, 3), (((0, 0, 40, 96), (1, 0, 56, 96)), (), ("inner",), ()))
        self.check(HOUSE, group_moved(HOUSE, 2, "x", 2), (((0, 0, 40, 56), (1, 0, 56, 56), (1, 1, 56, 40)), (), (), ()))
        # Nothing of the rooms is changed by a wall that ends freely, but the wall that it cuts has openings.
        self.check(HOUSE, wall_put(HOUSE, (12, 4), (15, 4)), ((), (), ("pane",), ()))

    def test_pairs_with_all_cells_in_common_are_left_out_though_numbered_otherwise(self):
        one = (net_of(samples.lattice((0, 5, 9), (0, 4))), (), (), ())
        other = (net_of(samples.lattice((0, 5, 9), (0, 4)), (5, 4, 3, 2, 1, 0)), (), (), ())
        self.check(one, other, ((), (), (), ()))

    def test_rooms_of_one_area_that_have_not_all_in_common_are_told(self):
        one, other = (net_of(box(0, 0, 4, 4)), (), (), ()), (net_of(box(1, 0, 5, 4)), (), (), ())
        self.check(one, other, (((-1, 0, 0, 16), (0, -1, 16, 0), (0, 0, 16, 16)), (), (), ()))
        # A part within: all cells of the new one are the old one's, but not the other way about.
        ring = (put_box(net_of(box(0, 0, 9, 9)), 3, 3, 5, 5), (), (), ())
        self.check((net_of(box(0, 0, 9, 9)), (), (), ()), ring, (((0, 0, 81, 77), (0, 1, 81, 4)), (), (), ()))

    def test_names_that_only_one_has_or_that_are_unlike(self):
        for place in (1, 2, 3):
            rows = HOUSE[place]
            for k, row in enumerate(rows):
                expected = [(), (), (), ()]
                expected[place] = (row[0],)
                self.check(HOUSE, exchanged(HOUSE, (place,), rows[:k] + rows[k + 1:]), tuple(expected))
        self.check(HOUSE, exchanged(HOUSE, (1, 1, 5), 8), ((), ("mid",), (), ()))
        self.check(HOUSE, exchanged(HOUSE, (2, 0, 1), "window"), ((), (), ("front",), ()))
        self.check(HOUSE, exchanged(HOUSE, (3, 0, 4), 2), ((), (), (), ("bed",)))
        other = (TWO, (("high", "y", 0, 1, 7, 8), ("z", "x", 0, 0, 0, 0)), (("inner", "door", (2, 3), 2, 3, 2),),
                 (("bed", 7, 0, 4, 3), ("a", 0, 0, 1, 1))[::-1])
        self.check(HOUSE, other, ((), ("high", "mid", "z"), ("front", "pane"), ("a", "desk")))

    def test_one_name_in_several_kinds(self):
        one = (TWO, (("a", "x", 0, 0, 0, 0),), (("a", "door", (0, 1), 0, 0, 1),), (("a", 3, 4, 1, 1),))
        self.check(one, exchanged(one, (2,), ()), ((), (), ("a",), ()))
        self.check(one, (TWO, (), (), ()), ((), ("a",), ("a",), ("a",)))
        self.check(one, (TWO, (("b", "x", 0, 0, 0, 0),), one[2], (("a", 3, 4, 1, 2),)), ((), ("a", "b"), (), ("a",)))

    def test_as_cell_by_cell(self):
        chance = random.Random(17)
        plans = slow.chance_plans()
        for plan in plans:
            for other in (chance.choice(plans), self.moved(chance, plan)):
                old, new = dict(enumerate(areas(plan[0]))), dict(enumerate(areas(other[0])))
                old[-1] = new[-1] = 0
                pairs = tuple(
                    (i, j, old[i], new[j]) for i, j, cells in common_slowly(plan[0], other[0])
                    if not (cells == old[i] and cells == new[j])
                )
                named = [
                    tuple(sorted({row[0] for row in set(plan[place]) ^ set(other[place])})) for place in (1, 2, 3)
                ]
                self.check(plan, other, (pairs, *named))

    def moved(self, chance, plan):
        """The plan with something moved, if that can be."""
        for c, _, _ in chance.sample(plan[0][0], len(plan[0][0])):
            try:
                return group_moved(plan, c, chance.choice("xy"), chance.choice([-1, 1, 2]))
            except PlanError:
                continue
        return plan

    def test_nothing_is_changed(self):
        before = copy.deepcopy(HOUSE)
        changed(HOUSE, EMPTY)
        self.assertTrue(same(HOUSE, before))


def put_box(net, x, y, u, v):
    for a, b, c, d in box(x, y, u, v):
        net = put(net, (a, b), (c, d))
    return net
