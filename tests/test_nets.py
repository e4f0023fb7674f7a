"""What a net is, and what is none [2, 4, 5]."""

import copy
import unittest

from tests import samples
from tests.samples import STRANGE, at_path, changed, listed, paths
from wallplan.errors import NoNet
from wallplan.nets import is_net, look_net

MOST = 10 ** 6


def wall_net(one, other):
    """What has two corners, 0 and 1, and a wall from 0 to 1."""
    return ((0, *one), (1, *other)), ((0, 1),)


class NetTest(unittest.TestCase):
    def check(self, thing, expected):
        """is_net, look_net, told twice, and the thing left as it was."""
        for _ in range(2):
            self.assertIs(is_net(thing), expected, thing)
            if expected:
                self.assertIsNone(look_net(thing))
            else:
                self.assertRaises(NoNet, look_net, thing)

    def yes(self, thing):
        self.check(thing, True)

    def no(self, thing):
        self.check(thing, False)

    def test_the_net_without_walls(self):
        self.yes(((), ()))

    def test_samples(self):
        for net in samples.NAMED.values():
            self.yes(net)

    def test_nets_by_chance(self):
        for net in samples.chance_nets():
            self.assertLessEqual(len(net[0]), 60)
            self.assertLessEqual(len(net[1]), 90)
            self.yes(net)

    def test_sixty_corners_and_sixty_one(self):
        self.yes(samples.net_of([(k, 0, k + 1, 0) for k in range(59)]))
        self.no(samples.net_of([(k, 0, k + 1, 0) for k in range(60)]))
        self.yes(samples.net_of([(k, 0, k, 1) for k in range(30)]))

    def test_ninety_walls_and_ninety_one(self):
        ninety = samples.lattice_net(90)
        self.assertEqual((len(ninety[0]), len(ninety[1])), (60, 90))
        self.yes(ninety)
        ninety_one = samples.lattice_net(91)
        self.assertEqual((len(ninety_one[0]), len(ninety_one[1])), (60, 91))
        self.no(ninety_one)

    def test_edges_of_spots(self):
        self.yes(wall_net((0, 0), (0, MOST)))
        self.yes(wall_net((0, 0), (MOST, 0)))
        self.yes(wall_net((MOST - 1, MOST), (MOST, MOST)))
        self.yes(wall_net((MOST, MOST - 1), (MOST, MOST)))
        self.no(wall_net((-1, 0), (5, 0)))
        self.no(wall_net((0, -1), (0, 5)))
        self.no(wall_net((0, 0), (MOST + 1, 0)))
        self.no(wall_net((0, 0), (0, MOST + 1)))

    def test_edges_of_numbers(self):
        self.yes((((0, 1, 1), (999, 2, 1)), ((0, 999),)))
        self.yes((((0, 2, 1), (999, 1, 1)), ((999, 0),)))
        self.no((((-1, 1, 1), (5, 2, 1)), ((-1, 5),)))
        self.no((((5, 1, 1), (1000, 2, 1)), ((5, 1000),)))

    def test_corners_rise_by_numbers_none_twice(self):
        walls = ((0, 1), (1, 2))
        self.yes((((0, 0, 0), (1, 3, 0), (2, 5, 0)), walls))
        self.no((((1, 3, 0), (0, 0, 0), (2, 5, 0)), walls))
        self.no((((0, 0, 0), (2, 5, 0), (1, 3, 0)), walls))
        self.no((((0, 0, 0), (1, 3, 0), (1, 3, 0), (2, 5, 0)), walls))
        self.no((((0, 0, 0), (1, 3, 0), (1, 3, 4), (2, 5, 0)), walls))
        self.no((((0, 0, 0), (1, 3, 4), (1, 3, 0), (2, 5, 0)), walls))

    def test_walls_rise_none_twice(self):
        corners = ((0, 0, 0), (1, 3, 0), (2, 5, 0))
        self.no((corners, ((1, 2), (0, 1))))
        self.no((corners, ((0, 1), (0, 1), (1, 2))))
        self.no((corners, ((0, 1), (1, 2), (1, 2))))

    def test_two_corners_at_one_spot(self):
        self.no((((0, 0, 0), (1, 3, 0), (2, 3, 0), (3, 5, 0)), ((0, 1), (2, 3))))
        self.no((((0, 0, 0), (1, 3, 0), (2, 3, 0), (3, 3, 4)), ((0, 1), (2, 3))))

    def test_each_corner_is_an_end(self):
        self.no((((0, 0, 0),), ()))
        self.no((((0, 0, 0), (1, 3, 0), (2, 7, 7)), ((0, 1),)))

    def test_each_end_is_a_corner(self):
        self.no(((), ((0, 1),)))
        self.no((((0, 0, 0), (1, 3, 0)), ((0, 1), (0, 2))))
        self.no((((1, 0, 0), (2, 3, 0)), ((0, 1), (1, 2))))

    def test_a_wall_is_not_turned_about(self):
        self.no((((0, 3, 0), (1, 0, 0)), ((0, 1),)))
        self.no((((0, 0, 3), (1, 0, 0)), ((0, 1),)))
        self.no((((0, 0, 0), (1, 3, 0)), ((1, 0),)))
        self.no((((0, 0, 0), (1, 3, 0)), ((0, 1), (1, 0))))
        self.yes((((0, 3, 0), (1, 0, 0)), ((1, 0),)))

    def test_a_wall_has_two_ends(self):
        self.no((((0, 3, 0),), ((0, 0),)))
        self.no((((0, 0, 0), (1, 3, 0)), ((0, 0), (0, 1))))

    def test_a_wall_is_level_or_upright(self):
        self.no(wall_net((0, 0), (1, 1)))
        self.no(wall_net((0, 5), (1, 4)))
        self.no(wall_net((0, 0), (MOST, 1)))

    def test_walls_that_cross(self):
        self.no(samples.net_of([(0, 2, 4, 2), (2, 0, 2, 4)]))
        self.no(samples.net_of([(0, 1, MOST, 1), (7, 0, 7, 2)]))
        self.no(samples.net_of(samples.box(0, 0, 4, 4) + [(2, 1, 2, 5)]))

    def test_walls_that_touch_within_one(self):
        self.no(samples.net_of([(0, 2, 4, 2), (2, 2, 2, 4)]))
        self.no(samples.net_of([(0, 2, 4, 2), (2, 0, 2, 2)]))
        self.no(samples.net_of([(2, 0, 2, 4), (2, 2, 4, 2)]))
        self.no(samples.net_of([(2, 0, 2, 4), (0, 2, 2, 2)]))
        self.yes(samples.net_of([(0, 2, 2, 2), (2, 2, 4, 2), (2, 2, 2, 4)]))

    def test_walls_that_lie_along_one_another(self):
        self.no(samples.net_of([(0, 0, 4, 0), (2, 0, 6, 0)]))
        self.no(samples.net_of([(0, 0, 4, 0), (0, 0, 6, 0)]))
        self.no(samples.net_of([(0, 0, 6, 0), (2, 0, 6, 0)]))
        self.no(samples.net_of([(0, 0, 6, 0), (2, 0, 4, 0)]))
        self.no(samples.net_of([(0, 0, 0, 4), (0, 2, 0, 6)]))
        self.no(samples.net_of([(0, 0, 0, 6), (0, 0, 0, 4)]))
        self.no(samples.net_of([(0, 0, 0, 6), (0, 2, 0, 4)]))

    def test_walls_that_come_near(self):
        self.yes(samples.net_of([(0, 0, 4, 0), (4, 0, 6, 0)]))
        self.yes(samples.net_of([(0, 0, 4, 0), (5, 0, 6, 0)]))
        self.yes(samples.net_of([(0, 0, 4, 0), (0, 1, 4, 1)]))
        self.yes(samples.net_of([(0, 0, 4, 0), (2, 1, 2, 4)]))
        self.yes(samples.net_of([(0, 0, 4, 0), (5, 0, 5, 4)]))
        self.yes(samples.net_of([(0, 0, 0, 4), (0, 5, 0, 6)]))

    def test_anything(self):
        for thing in STRANGE:
            self.no(thing)

    def test_strange_things_in_each_place(self):
        net = (((0, 0, 1), (1, 1, 1), (2, 1, 2)), ((0, 1), (1, 2)))
        self.yes(net)
        for path in paths(net):
            old = at_path(net, path)
            for thing in STRANGE:
                if isinstance(thing, int) and not isinstance(thing, bool):
                    continue
                self.no(changed(net, path, thing))
            if isinstance(old, tuple):
                self.no(changed(net, path, list(old)))
                self.no(changed(net, path, listed(old)))
                self.no(changed(net, path, old + (None,)))
                self.no(changed(net, path, old[:-1]))
            else:
                # True is 1 and False is 0 to Python, but they are no whole numbers.
                self.no(changed(net, path, bool(old)))
                self.no(changed(net, path, float(old)))
                self.no(changed(net, path, str(old)))

    def test_nothing_is_changed(self):
        for thing in (samples.CROSS, [[(0, 0, 0)], [(0, 1)]], ([(0, 0, 0), (1, 1, 0)], [(0, 1)])):
            before = copy.deepcopy(thing)
            is_net(thing)
            self.assertEqual(thing, before)
