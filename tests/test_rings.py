"""Sides, rings, areas and parts [6, 7, 8]."""

import copy
import unittest

from tests import samples
from wallplan.rings import area_of, parts, rings

STEPS = ((1, 0), (0, 1), (-1, 0), (0, -1))


def ways_at(net):
    """From each corner and way the other end of the wall that there is, by the words of [6]."""
    at = {c: (x, y) for c, x, y in net[0]}
    found = {}
    for a, b in list(net[1]) + [(b, a) for a, b in net[1]]:
        dx, dy = at[b][0] - at[a][0], at[b][1] - at[a][1]
        step = ((dx > 0) - (dx < 0), (dy > 0) - (dy < 0))
        found[a, STEPS.index(step)] = b
    return found


def next_of(net, side):
    """The next side behind a side, by the words of [6]."""
    ways = ways_at(net)
    way = [k for k in range(4) if ways.get((side[0], k)) == side[1]][0]
    ends = [ways[side[1], (way + turn) % 4] for turn in (1, 0, -1, 2) if (side[1], (way + turn) % 4) in ways]
    return side[1], ends[0]


def parts_slowly(net):
    """Corners joined by walls, by putting sets together."""
    groups = [{c} for c, _, _ in net[0]]
    for a, b in net[1]:
        both = [group for group in groups if a in group or b in group]
        groups = [group for group in groups if group not in both] + [set().union(*both)]
    return tuple(sorted(tuple(sorted(group)) for group in groups))


class RingTest(unittest.TestCase):
    def test_the_net_without_walls(self):
        self.assertEqual(rings(samples.EMPTY), ())
        self.assertEqual(parts(samples.EMPTY), ())

    def test_an_oblong(self):
        self.assertEqual(rings(samples.SQUARE), ((0, 1, 3, 2), (0, 2, 3, 1)))
        self.assertEqual(area_of(samples.SQUARE, (0, 2, 3, 1)), 12)
        self.assertEqual(area_of(samples.SQUARE, (0, 1, 3, 2)), -12)
        self.assertEqual(parts(samples.SQUARE), ((0, 1, 2, 3),))

    def test_a_wall_that_stands_alone(self):
        self.assertEqual(rings(samples.LONE), ((0, 1),))
        self.assertEqual(area_of(samples.LONE, (0, 1)), 0)
        self.assertEqual(parts(samples.LONE), ((0, 1),))

    def test_walls_that_end_freely(self):
        # 0 (0, 0), 1 (0, 4), 2 (3, 2), 3 (6, 0), 4 (6, 2), 5 (6, 4), 6 (8, 2)
        self.assertEqual(rings(samples.FREE), ((0, 1, 5, 4, 6, 4, 3), (0, 3, 4, 2, 4, 5, 1)))
        self.assertEqual(area_of(samples.FREE, (0, 1, 5, 4, 6, 4, 3)), -24)
        self.assertEqual(area_of(samples.FREE, (0, 3, 4, 2, 4, 5, 1)), 24)

    def test_a_crossing_of_four_walls(self):
        # 0 (0, 0), 1 (0, 3), 2 (0, 7), 3 (2, 0), 4 (2, 3), 5 (2, 7), 6 (5, 0), 7 (5, 3), 8 (5, 7)
        told = ((0, 1, 2, 5, 8, 7, 6, 3), (0, 3, 4, 1), (1, 4, 5, 2), (3, 6, 7, 4), (4, 7, 8, 5))
        self.assertEqual(rings(samples.CROSS), told)
        self.assertEqual([area_of(samples.CROSS, ring) for ring in told], [-35, 6, 8, 9, 12])

    def test_walls_that_cross_and_end_freely(self):
        # 0 (0, 2), 1 (2, 0), 2 (2, 2), 3 (2, 4), 4 (4, 2): to the left first, back where nothing else is.
        star = samples.net_of([(0, 2, 2, 2), (2, 2, 4, 2), (2, 0, 2, 2), (2, 2, 2, 4)])
        self.assertEqual(rings(star), ((0, 2, 3, 2, 4, 2, 1, 2),))
        self.assertEqual(area_of(star, (0, 2, 3, 2, 4, 2, 1, 2)), 0)

    def test_a_line_of_walls(self):
        line = samples.net_of([(0, 0, 2, 0), (2, 0, 5, 0), (5, 0, 9, 0)], (4, 0, 7, 2))
        self.assertEqual(rings(line), ((0, 4, 0, 7, 2, 7),))
        self.assertEqual(parts(line), ((0, 2, 4, 7),))

    def test_a_ring_begins_with_its_least_side_not_its_least_corner_alone(self):
        # The corner 0 stands twice in the rim, from it go (0, 1) and (0, 2): the ring begins with (0, 1).
        bent = samples.net_of([(0, 0, 3, 0), (3, 0, 3, 3)], (2, 0, 1))
        self.assertEqual(rings(bent), ((0, 1, 0, 2),))
        turned = samples.net_of([(0, 0, 3, 0), (3, 0, 3, 3)], (1, 0, 2))
        self.assertEqual(rings(turned), ((0, 1, 0, 2),))

    def test_several_parts(self):
        net = samples.net_of([(0, 0, 3, 0), (5, 0, 9, 0), (5, 0, 5, 4)], (7, 2, 1, 900, 0))
        self.assertEqual(parts(net), ((0, 1, 900), (2, 7)))
        self.assertEqual(rings(net), ((0, 1, 900, 1), (2, 7)))
        self.assertEqual([len(part) for part in parts(samples.BESIDE)], [4] * 6)

    def test_exact_areas_far_out(self):
        most = 10 ** 6
        net = samples.net_of(samples.box(0, 0, most, most))
        self.assertEqual([area_of(net, ring) for ring in rings(net)], [-most * most, most * most])
        net = samples.net_of(samples.box(most - 1, most - 1, most, most))
        self.assertEqual([area_of(net, ring) for ring in rings(net)], [-1, 1])


class EveryNetTest(unittest.TestCase):
    def setUp(self):
        self.nets = list(samples.NAMED.values()) + samples.chance_nets()

    def test_each_side_is_in_one_ring(self):
        for net in self.nets:
            told = sorted(side for ring in rings(net) for side in samples.turns(ring))
            self.assertEqual(told, sorted(list(net[1]) + [(b, a) for a, b in net[1]]))

    def test_next_sides(self):
        for net in self.nets:
            for ring in rings(net):
                sides = samples.turns(ring)
                for k, side in enumerate(sides):
                    self.assertEqual(next_of(net, side), sides[(k + 1) % len(sides)])

    def test_rings_begin_with_their_least_sides_and_rise(self):
        for net in self.nets:
            told = rings(net)
            self.assertEqual(list(told), sorted(set(told)))
            for ring in told:
                self.assertEqual(min(samples.turns(ring)), (ring[0], ring[1]))

    def test_parts(self):
        for net in self.nets:
            self.assertEqual(parts(net), parts_slowly(net))

    def test_each_part_has_one_rim(self):
        for net in self.nets:
            rims = [ring for ring in rings(net) if area_of(net, ring) <= 0]
            for part in parts(net):
                self.assertEqual(len([rim for rim in rims if rim[0] in part]), 1)
            self.assertEqual(len(rims), len(parts(net)))

    def test_areas_of_parts_come_to_nought(self):
        for net in self.nets:
            for part in parts(net):
                self.assertEqual(sum(area_of(net, ring) for ring in rings(net) if ring[0] in part), 0)

    def test_kinds(self):
        for net in self.nets:
            self.assertIs(type(rings(net)), tuple)
            self.assertIs(type(parts(net)), tuple)
            for row in rings(net) + parts(net):
                self.assertIs(type(row), tuple)
                self.assertEqual({type(number) for number in row}, {int})
            for ring in rings(net):
                self.assertIs(type(area_of(net, ring)), int)

    def test_told_the_same_again_and_nothing_changed(self):
        for net in self.nets:
            before = copy.deepcopy(net)
            self.assertEqual(rings(net), rings(before))
            self.assertEqual(parts(net), parts(before))
            self.assertEqual([area_of(net, ring) for ring in rings(net)], [area_of(net, ring) for ring in rings(net)])
            self.assertEqual(net, before)
