"""Rooms, what lies outside, and cells [3, 9, 10, 11]."""

import copy
import unittest

from tests import samples
from wallplan.rings import area_of, parts, rings
from wallplan.rooms import cell_at, outside, rooms


class RoomTest(unittest.TestCase):
    def test_the_net_without_walls(self):
        self.assertEqual(rooms(samples.EMPTY), ())
        self.assertEqual(outside(samples.EMPTY), ())
        for x, y in ((0, 0), (-1, -1), (10 ** 9, 5)):
            self.assertIsNone(cell_at(samples.EMPTY, x, y))

    def test_an_oblong(self):
        self.assertEqual(rooms(samples.SQUARE), (((0, 2, 3, 1), (), 12),))
        self.assertEqual(outside(samples.SQUARE), ((0, 1, 3, 2),))

    def test_a_wall_that_stands_alone(self):
        self.assertEqual(rooms(samples.LONE), ())
        self.assertEqual(outside(samples.LONE), ((0, 1),))

    def test_walls_that_end_freely(self):
        self.assertEqual(rooms(samples.FREE), (((0, 3, 4, 2, 4, 5, 1), (), 24),))
        self.assertEqual(outside(samples.FREE), ((0, 1, 5, 4, 6, 4, 3),))

    def test_a_crossing_of_four_walls(self):
        told = (((0, 3, 4, 1), (), 6), ((1, 4, 5, 2), (), 8), ((3, 6, 7, 4), (), 9), ((4, 7, 8, 5), (), 12))
        self.assertEqual(rooms(samples.CROSS), told)
        self.assertEqual(outside(samples.CROSS), ((0, 1, 2, 5, 8, 7, 6, 3),))

    def test_parts_within_rooms_and_within_rooms_of_these(self):
        # 0 (0, 0), 1 (0, 20), 2 (2, 3), 3 (2, 17), 4 (5, 5), 5 (5, 15), 6 (8, 9), 7 (12, 9), and so on eastward.
        told = rooms(samples.NEST)
        self.assertEqual([area for ring, rims, area in told], [400 - 16 * 14, 16 * 14 - 100, 100])
        self.assertEqual(told[0][:2], ((0, 12, 13, 1), ((2, 3, 11, 10),)))
        self.assertEqual(told[1][:2], ((2, 10, 11, 3), ((4, 5, 9, 8),)))
        self.assertEqual(told[2][:2], ((4, 8, 9, 5), ((6, 7),)))
        self.assertEqual(outside(samples.NEST), ((0, 1, 13, 12),))

    def test_rims_beside_other_rims(self):
        told = rooms(samples.BESIDE)
        self.assertEqual([len(rims) for ring, rims, area in told], [3, 0, 0, 0, 0, 0])
        self.assertEqual([area for ring, rims, area in told], [200 - 24 - 12 - 8, 24, 12, 8, 12, 1])
        self.assertEqual([ring[0] for ring in told[0][1]], [2, 6, 10])
        self.assertEqual([ring[0] for ring in outside(samples.BESIDE)], [0, 16, 20])

    def test_a_rim_beside_a_free_wall_of_a_rim(self):
        # West of the least spot stands a wall that ends freely outside, then one that ends freely in a room.
        net = samples.net_of(samples.box(0, 0, 9, 9) + [(9, 9, 9, 12), (11, 9, 11, 10)])
        self.assertEqual([ring[:2] for ring in outside(net)], [(0, 1), (5, 6)])
        net = samples.net_of([(0, 0, 9, 0), (0, 9, 9, 9), (0, 0, 0, 5), (0, 5, 0, 9), (9, 0, 9, 9), (0, 5, 3, 5)]
                             + [(3, 5, 3, 8), (5, 6, 6, 6)])
        self.assertEqual(rooms(net)[0][1], ((5, 6),))
        self.assertEqual(rooms(net)[0][2], 81)

    def test_rows_of_west_walls_are_closed_below_and_open_above(self):
        # The part's least spot is level with the lower end of one wall and the upper end of another one.
        net = samples.net_of([(0, 0, 4, 0), (0, 8, 4, 8), (0, 0, 0, 8), (4, 0, 4, 3), (4, 3, 4, 8)] + [(6, 3, 7, 3)])
        self.assertEqual(rooms(net)[0][1:], ((), 32))
        notch = [(0, 0, 9, 0), (0, 0, 0, 4), (0, 4, 3, 4), (3, 4, 3, 9), (3, 9, 9, 9), (9, 0, 9, 9)]
        net = samples.net_of(notch + [(5, 4, 6, 4)])
        self.assertEqual(rooms(net)[0][1], ((4, 5),))
        net = samples.net_of(samples.box(0, 4, 3, 9) + samples.box(1, 0, 8, 4)[0:1] + [(5, 9, 6, 9)])
        self.assertEqual(len(outside(net)), 3)

    def test_a_part_within_a_room_beside_the_room_s_own_wall(self):
        net = samples.net_of(samples.box(0, 0, 5, 5) + samples.box(1, 1, 4, 4))
        self.assertEqual([area for ring, rims, area in rooms(net)], [16, 9])
        self.assertEqual(rooms(net)[0][1], ((2, 3, 5, 4),))

    def test_rims_rise_whatever_lies_west(self):
        net = samples.net_of([(0, 0, 0, 2), (4, 0, 4, 2), (8, 0, 8, 2)], (8, 9, 4, 5, 0, 1))
        self.assertEqual(outside(net), ((0, 1), (4, 5), (8, 9)))
        lines = samples.box(0, 0, 12, 6) + [(2, 2, 2, 4), (4, 2, 4, 4), (6, 2, 6, 4)]
        net = samples.net_of(lines, (0, 1, 30, 31, 20, 21, 10, 11, 40, 41))
        self.assertEqual(rooms(net)[0][1:], (((10, 11), (20, 21), (30, 31)), 72))

    def test_rooms_are_numbered_by_rings_not_by_spots(self):
        net = samples.net_of(samples.box(0, 0, 2, 2) + samples.box(5, 0, 9, 2), (90, 91, 92, 93, 10, 11, 12, 13))
        self.assertEqual(rooms(net), (((10, 12, 13, 11), (), 8), ((90, 92, 93, 91), (), 4)))
        self.assertEqual(cell_at(net, 0, 0), 1)
        self.assertEqual(cell_at(net, 5, 0), 0)


class CellTest(unittest.TestCase):
    def test_beside_each_wall(self):
        for x, y in ((0, 0), (3, 0), (0, 2), (3, 2), (1, 1)):
            self.assertEqual(cell_at(samples.SQUARE, x, y), 0)
        for x, y in ((-1, 0), (0, -1), (4, 0), (0, 3), (4, 3), (-1, -1), (-1, 3), (4, -1)):
            self.assertIsNone(cell_at(samples.SQUARE, x, y))

    def test_far_beyond_all_walls(self):
        for x in (-10 ** 30, -1, 1, 10 ** 6, 10 ** 30):
            for y in (-10 ** 30, -1, 10 ** 6, 10 ** 30):
                self.assertIsNone(cell_at(samples.SQUARE, x, y))
        self.assertIsNone(cell_at(samples.SQUARE, 10 ** 30, 1))
        self.assertIsNone(cell_at(samples.SQUARE, -10 ** 30, 1))

    def test_the_farthest_room(self):
        most = 10 ** 6
        net = samples.net_of(samples.box(most - 1, most - 1, most, most))
        self.assertEqual(cell_at(net, most - 1, most - 1), 0)
        self.assertIsNone(cell_at(net, most, most - 1))
        self.assertIsNone(cell_at(net, most - 1, most))
        net = samples.net_of(samples.box(0, 0, most, most))
        self.assertEqual(cell_at(net, 0, most - 1), 0)
        self.assertEqual(cell_at(net, most - 1, 0), 0)

    def test_beside_a_wall_that_ends_freely_or_stands_alone(self):
        self.assertEqual([cell_at(samples.FREE, x, 2) for x in range(-1, 9)], [None] + [0] * 6 + [None] * 3)
        self.assertIsNone(cell_at(samples.LONE, 1, 6))
        self.assertIsNone(cell_at(samples.LONE, 2, 6))

    def test_beside_parts_in_a_room(self):
        self.assertEqual([cell_at(samples.NEST, x, 10) for x in (0, 1, 2, 4, 5, 8, 14, 15, 17, 18, 19)],
                         [0, 0, 1, 1, 2, 2, 2, 1, 1, 0, 0])
        self.assertEqual([cell_at(samples.BESIDE, x, 5) for x in (0, 1, 4, 6, 8, 10, 12, 19, 20, 22, 24)],
                         [0, 1, 0, 2, 0, 3, 0, 0, None, 4, None])


class EveryNetTest(unittest.TestCase):
    def setUp(self):
        self.nets = list(samples.NAMED.values()) + samples.chance_nets()

    def test_samples_are_of_many_kinds(self):
        told = [room for net in self.nets for room in rooms(net)]
        self.assertGreater(len([rims for ring, rims, area in told if len(rims) > 1]), 10)
        self.assertGreater(max(len(rooms(net)) for net in self.nets), 12)
        self.assertGreater(max(len(outside(net)) for net in self.nets), 3)

    def test_as_many_rooms_as_walls_less_corners_and_parts(self):
        for net in self.nets:
            self.assertEqual(len(rooms(net)), len(net[1]) - len(net[0]) + len(parts(net)))

    def test_cells_asked_one_by_one(self):
        # The places found by going from cell to cell are the rooms, each cell is of one, and they have their areas.
        for net in self.nets:
            told = rooms(net)
            numbers = []
            for place in samples.flooded(net):
                homes = {cell_at(net, x, y) for x, y in place}
                self.assertEqual(len(homes), 1)
                number = homes.pop()
                numbers.append(number)
                if number is not None:
                    self.assertEqual(len(place), told[number][2])
            self.assertIsNone(numbers[0])
            self.assertEqual(sorted(numbers[1:]), list(range(len(told))))

    def test_rings_and_rims_lie_about_the_cells_of_their_room(self):
        for net in self.nets:
            for number, (ring, rims, _) in enumerate(rooms(net)):
                for side in samples.turns(ring) + [side for rim in rims for side in samples.turns(rim)]:
                    self.assertEqual(cell_at(net, *samples.cell_left_of(net, side)), number)
            for side in [side for rim in outside(net) for side in samples.turns(rim)]:
                self.assertIsNone(cell_at(net, *samples.cell_left_of(net, side)))

    def test_each_ring_is_told_once(self):
        for net in self.nets:
            told = rooms(net)
            above = [ring for ring in rings(net) if area_of(net, ring) > 0]
            self.assertEqual([ring for ring, rims, area in told], above)
            rims = [rim for room in told for rim in room[1]] + list(outside(net))
            self.assertEqual(sorted(rims), [ring for ring in rings(net) if area_of(net, ring) <= 0])

    def test_rims_rise_and_areas_are_put_together(self):
        for net in self.nets:
            for ring, rims, area in rooms(net):
                self.assertEqual(list(rims), sorted(rims))
                self.assertEqual(area, area_of(net, ring) + sum(area_of(net, rim) for rim in rims))
                self.assertGreater(area, 0)
            self.assertEqual(list(outside(net)), sorted(outside(net)))

    def test_kinds(self):
        for net in self.nets:
            self.assertIs(type(rooms(net)), tuple)
            self.assertIs(type(outside(net)), tuple)
            for room in rooms(net):
                self.assertEqual([type(part) for part in room], [tuple, tuple, int])
                self.assertIs(type(room), tuple)
                self.assertTrue(all(type(rim) is tuple for rim in room[1]))
            self.assertTrue(all(type(rim) is tuple for rim in outside(net)))
            self.assertIn(type(cell_at(net, 3, 3)), (int, type(None)))

    def test_told_the_same_again_and_nothing_changed(self):
        for net in self.nets:
            before = copy.deepcopy(net)
            self.assertEqual(rooms(net), rooms(before))
            self.assertEqual(outside(net), outside(before))
            self.assertEqual(cell_at(net, 2, 2), cell_at(before, 2, 2))
            self.assertEqual(net, before)
