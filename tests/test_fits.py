"""Where a thing fits [2, 26]."""

import random
import unittest

from tests import samples, slow
from tests.samples import box, net_of, same
from tests.slow import HOUSE, TWO, cells, names, place_cells
from wallplan.errors import TooMany
from wallplan.fits import fit
from wallplan.plans import is_plan, thing_put
from wallplan.rooms import rooms

MOST = 10 ** 6


def fit_slowly(plan, room, w, h):
    """The first spot, row by row from the south, where a thing fits in this room, cell by cell."""
    net, _, openings, things = plan
    taken = set()
    for thing in things:
        taken |= cells(*thing[1:])
    for opening in openings:
        if opening[1] == "door":
            taken |= place_cells(net, opening)
    own = {cell for cell, number in slow.room_map(net).items() if number == room} - taken
    for x, y in sorted(own, key=lambda cell: (cell[1], cell[0])):
        oblong = cells(x, y, w, h)
        if oblong <= own and not any(one in oblong and other in oblong for one, other in slow.barred(net)):
            return x, y
    return None


class FitTest(unittest.TestCase):
    def check(self, plan, room, w, h, expected):
        """So it is, twice, and a thing put there is let by."""
        for _ in range(2):
            self.assertTrue(same(fit(plan, room, w, h), expected), (plan, room, w, h, fit(plan, room, w, h)))
        if expected is not None and len(plan[3]) < 30:
            free = [name for name in names(31) if name not in [thing[0] for thing in plan[3]]][0]
            self.assertTrue(is_plan(thing_put(plan, (free, *expected, w, h))))

    def test_an_oblong(self):
        plan = (net_of(box(3, 4, 13, 10)), (), (), ())
        for w, h in ((1, 1), (10, 6), (10, 1), (1, 6), (4, 5)):
            self.check(plan, 0, w, h, (3, 4))
        for w, h in ((11, 1), (1, 7), (11, 7), (MOST, 1), (1, MOST), (MOST, MOST), (10 ** 30, 10 ** 30)):
            self.check(plan, 0, w, h, None)

    def test_of_two_rooms(self):
        plan = (TWO, (), (), ())
        self.check(plan, 0, 5, 8, (0, 0))
        self.check(plan, 0, 6, 1, None)
        self.check(plan, 1, 7, 8, (5, 0))
        self.check(plan, 1, 8, 1, None)

    def test_the_least_y_then_the_least_x(self):
        # Two things: the first row that is free enough goes, though less far east there is place above.
        plan = (net_of(box(0, 0, 10, 10)), (), (), (("a", 0, 0, 4, 3), ("b", 6, 0, 1, 1)))
        self.check(plan, 0, 1, 1, (4, 0))
        self.check(plan, 0, 2, 2, (4, 0))
        self.check(plan, 0, 3, 2, (7, 0))
        self.check(plan, 0, 4, 2, (4, 1))
        self.check(plan, 0, 6, 5, (4, 1))
        self.check(plan, 0, 7, 7, (0, 3))
        self.check(plan, 0, 7, 8, None)

    def test_a_house(self):
        self.check(HOUSE, 0, 1, 1, (0, 0))
        self.check(HOUSE, 0, 2, 2, (3, 0))
        self.check(HOUSE, 0, 3, 3, (0, 2))
        self.check(HOUSE, 0, 3, 2, (0, 2))
        self.check(HOUSE, 0, 4, 1, (0, 2))
        self.check(HOUSE, 0, 5, 1, (0, 2))
        self.check(HOUSE, 0, 5, 2, None)
        self.check(HOUSE, 1, 2, 3, (5, 0))
        self.check(HOUSE, 1, 3, 3, (7, 3))
        self.check(HOUSE, 1, 5, 5, (7, 3))
        self.check(HOUSE, 1, 6, 3, (5, 5))

    def test_a_thing_is_not_in_the_way_of_a_window(self):
        plan = (TWO, (), (("a", "window", (0, 1), 0, 0, 8), ("b", "door", (2, 3), 2, 0, 8)), ())
        self.check(plan, 0, 1, 1, None)
        plan = (TWO, (), (("a", "window", (0, 1), 0, 0, 8),), ())
        self.check(plan, 0, 5, 8, (0, 0))

    def test_a_room_that_is_no_oblong(self):
        # Like an L: 10 wide and 3 high below, 4 wide and 10 high to the west.
        net = net_of([(0, 0, 10, 0), (10, 0, 10, 3), (4, 3, 10, 3), (4, 3, 4, 10), (0, 10, 4, 10), (0, 0, 0, 10)])
        plan = (net, (), (), ())
        self.check(plan, 0, 10, 3, (0, 0))
        self.check(plan, 0, 4, 10, (0, 0))
        self.check(plan, 0, 5, 4, None)
        self.check(plan, 0, 10, 4, None)
        # A step at the south-west.
        net = net_of([(3, 0, 10, 0), (10, 0, 10, 9), (0, 9, 10, 9), (0, 4, 0, 9), (0, 4, 3, 4), (3, 0, 3, 4)])
        plan = (net, (), (), ())
        self.check(plan, 0, 1, 1, (3, 0))
        self.check(plan, 0, 7, 9, (3, 0))
        self.check(plan, 0, 8, 1, (0, 4))
        self.check(plan, 0, 10, 5, (0, 4))
        self.check(plan, 0, 8, 6, None)

    def test_beside_free_walls_and_parts_within(self):
        net = net_of([(0, 0, 9, 0), (0, 9, 9, 9), (0, 0, 0, 4), (0, 4, 0, 9), (9, 0, 9, 9), (0, 4, 5, 4), (7, 7, 8, 7)])
        plan = (net, (), (), ())
        self.check(plan, 0, 9, 4, (0, 0))
        self.check(plan, 0, 4, 7, (5, 0))
        self.check(plan, 0, 4, 8, None)
        self.check(plan, 0, 2, 9, (5, 0))
        self.check(plan, 0, 7, 5, (0, 4))
        self.check(plan, 0, 8, 5, None)
        nest = (samples.NEST, (), (), ())
        self.check(nest, 0, 20, 3, (0, 0))
        self.check(nest, 0, 3, 3, (0, 0))
        self.check(nest, 0, 4, 4, None)
        self.check(nest, 1, 3, 14, (2, 3))
        self.check(nest, 1, 4, 3, None)
        self.check(nest, 2, 10, 5, (5, 9))
        self.check(nest, 2, 4, 4, (5, 5))
        self.check(nest, 2, 4, 5, (5, 9))
        self.check(nest, 2, 4, 7, None)
        self.check(nest, 2, 3, 10, (5, 5))

    def test_with_thirty_things(self):
        net = net_of(box(0, 0, 31, 2))
        things = tuple((name, k, 0, 1, 1 + k % 2) for k, name in enumerate(names(30)))
        plan = (net, (), (), things)
        self.assertTrue(is_plan(plan))
        self.check(plan, 0, 1, 1, (30, 0))
        self.check(plan, 0, 1, 2, (30, 0))
        self.check(plan, 0, 2, 1, None)
        wide = (net_of(box(0, 0, 30, 2)), (), (), things)
        self.check(wide, 0, 1, 1, (0, 1))
        with self.assertRaises(TooMany):
            thing_put(plan, ("zz", 30, 0, 1, 1))
        full = (net_of(box(0, 0, 30, 1)), (), (), tuple((name, k, 0, 1, 1) for k, name in enumerate(names(30))))
        self.check(full, 0, 1, 1, None)

    def test_great_numbers(self):
        net = net_of(box(0, 0, MOST, MOST) + [(500, 600, 700, 600)])
        plan = (net, (), (), ())
        self.check(plan, 0, MOST, 600, (0, 0))
        self.check(plan, 0, MOST, 601, (0, 600))
        self.check(plan, 0, MOST, MOST - 600, (0, 600))
        self.check(plan, 0, MOST, MOST, None)
        self.check(plan, 0, 500, MOST, (0, 0))
        self.check(plan, 0, 501, MOST, (700, 0))
        self.check(plan, 0, MOST - 700, MOST, (700, 0))
        self.check(plan, 0, MOST - 699, MOST, None)
        door = (net, (), (("a", "door", (0, 1), 0, 0, MOST),), ())
        self.check(door, 0, 1, 1, None)

    def test_as_cell_by_cell(self):
        chance = random.Random(15)
        answers = {"none": 0, "some": 0}
        for plan in slow.chance_plans():
            for room in range(len(rooms(plan[0]))):
                sizes = [(1, 1)] + [(chance.randint(1, 5), chance.randint(1, 5)) for _ in range(4)]
                for w, h in sizes:
                    expected = fit_slowly(plan, room, w, h)
                    answers["none" if expected is None else "some"] += 1
                    self.check(plan, room, w, h, expected)
        self.assertGreater(min(answers.values()), 300, answers)
