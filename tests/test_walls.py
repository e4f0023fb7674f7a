"""Walls put and taken [2, 3, 13, 14, 15]."""

import copy
import random
import unittest

from tests import samples
from tests.samples import STRANGE, box, listed, net_of, same
from wallplan.errors import NoWall, TooMany
from wallplan.nets import is_net
from wallplan.rings import parts
from wallplan.roomlook import rooms_shown
from wallplan.rooms import rooms
from wallplan.walls import put, take

MOST = 10 ** 6


def put_slowly(net, one, other):
    """What [13] tells, spot by spot, of two spots that are in a line: a net, or the refusal's class."""
    line = (*min(one, other), *max(one, other))
    own = samples.spots_on(line)
    met = [own & samples.spots_on(wall) for wall in samples.lines_of(net)]
    if any(len(spots) > 1 for spots in met):
        return NoWall
    numbers = {(x, y): c for c, x, y in net[0]}
    for spot in sorted({one, other}.union(*met) - set(numbers)):
        numbers[spot] = min(set(range(200)) - set(numbers.values()))
    walls = []
    for wall in samples.lines_of(net) + [line]:
        on = sorted(samples.spots_on(wall) & set(numbers))
        walls += [(numbers[a], numbers[b]) for a, b in zip(on, on[1:])]
    if len(numbers) > 60 or len(walls) > 90:
        return TooMany
    return tuple(sorted((c, *spot) for spot, c in numbers.items())), tuple(sorted(walls))


def chance_line(chance, net):
    """Two spots in a line, sometimes at corners of the net."""
    wide, high = samples.reach(net)
    x, y = chance.randrange(wide + 1), chance.randrange(high + 1)
    if net[0] and chance.randrange(2):
        x, y = chance.choice(net[0])[1:]
    if chance.randrange(2):
        return (x, y), (chance.choice([k for k in range(wide + 1) if k != x]), y)
    return (x, y), (x, chance.choice([k for k in range(high + 1) if k != y]))


class PutTest(unittest.TestCase):
    def check(self, net, one, other, expected):
        """It is so, from either end, twice, and it is a net."""
        for ends in ((one, other), (other, one)):
            for _ in range(2):
                new = put(net, *ends)
                self.assertTrue(same(new, expected), (new, expected))
        self.assertTrue(is_net(expected))

    def refused(self, refusal, net, one, other):
        for ends in ((one, other), (other, one)):
            with self.assertRaises(refusal):
                put(net, *ends)

    def test_into_the_net_without_walls(self):
        self.check(samples.EMPTY, (3, 4), (3, 9), (((0, 3, 4), (1, 3, 9)), ((0, 1),)))
        self.check(samples.EMPTY, (3, 4), (8, 4), (((0, 3, 4), (1, 8, 4)), ((0, 1),)))
        self.check(samples.EMPTY, (0, 0), (MOST, 0), (((0, 0, 0), (1, MOST, 0)), ((0, 1),)))
        self.check(samples.EMPTY, (MOST, 0), (MOST, MOST), (((0, MOST, 0), (1, MOST, MOST)), ((0, 1),)))

    def test_apart_from_all_walls(self):
        expected = (((0, 2, 5), (1, 2, 9), (2, 3, 5), (3, 3, 9)), ((0, 1), (2, 3)))
        self.check(samples.LONE, (3, 5), (3, 9), expected)

    def test_between_two_corners(self):
        net = net_of([(0, 0, 4, 0), (0, 0, 0, 3), (0, 3, 4, 3)])
        self.check(net, (4, 0), (4, 3), samples.SQUARE)

    def test_a_wall_is_cut_in_two_at_an_end(self):
        corners = ((0, 0, 0), (1, 0, 3), (2, 4, 0), (3, 4, 3), (4, 2, 0), (5, 2, 3))
        walls = ((0, 1), (0, 4), (1, 5), (2, 3), (4, 2), (4, 5), (5, 3))
        self.check(samples.SQUARE, (2, 0), (2, 3), (corners, walls))

    def test_walls_are_cut_across(self):
        # It ends on both sides beyond the room, whose walls it cuts at two new corners.
        net = net_of(box(2, 2, 6, 5))
        corners = ((0, 2, 2), (1, 2, 5), (2, 6, 2), (3, 6, 5), (4, 0, 3), (5, 2, 3), (6, 6, 3), (7, 9, 3))
        walls = ((0, 2), (0, 5), (1, 3), (2, 6), (4, 5), (5, 1), (5, 6), (6, 3), (6, 7))
        self.check(net, (0, 3), (9, 3), (corners, walls))

    def test_corners_that_are_there_stay_and_part_it(self):
        # It goes through a corner of each of three walls, from the side, from both sides, and as their end.
        net = net_of([(2, 0, 2, 4), (4, 4, 4, 8), (6, 0, 6, 4), (6, 4, 6, 8)])
        new = put(net, (0, 4), (8, 4))
        self.assertEqual(new[0], net[0] + ((7, 0, 4), (8, 8, 4)))
        self.assertEqual(new[1], ((0, 1), (1, 2), (2, 3), (2, 5), (4, 5), (5, 6), (5, 8), (7, 1)))

    def test_new_numbers_are_the_least_free_ones_by_rising_spots(self):
        net = net_of([(2, 0, 2, 4), (4, 0, 4, 4), (6, 0, 6, 4)], (0, 999, 2, 5, 3, 8))
        new = put(net, (8, 2), (1, 2))
        found = {c: (x, y) for c, x, y in new[0]}
        self.assertEqual([found[c] for c in (1, 4, 6, 7, 9)], [(1, 2), (2, 2), (4, 2), (6, 2), (8, 2)])
        self.assertEqual([c for c, _, _ in new[0]], [0, 1, 2, 3, 4, 5, 6, 7, 8, 9, 999])
        self.assertTrue(is_net(new))

    def test_lesser_spots_go_by_x_then_y(self):
        # Upright: the lesser y is the lesser spot, whichever end is handed in first.
        net = net_of([(5, 5, 6, 5)], (1, 3))
        self.assertEqual(put(net, (2, 9), (2, 1))[0], ((0, 2, 1), (1, 5, 5), (2, 2, 9), (3, 6, 5)))
        self.assertEqual(put(net, (9, 1), (2, 1))[0], ((0, 2, 1), (1, 5, 5), (2, 9, 1), (3, 6, 5)))

    def test_along_a_wall_that_is_there(self):
        for net, turn in ((net_of([(4, 2, 8, 2)]), False), (net_of([(2, 4, 2, 8)]), True)):
            for one, other in ((4, 8), (5, 7), (4, 5), (7, 8), (0, 5), (7, 20), (0, 20), (4, 20), (0, 8)):
                ends = ((2, one), (2, other)) if turn else ((one, 2), (other, 2))
                self.refused(NoWall, net, *ends)

    def test_one_spot_in_common_with_a_wall_along_it_is_let_by(self):
        for one, other in ((8, 11), (0, 4)):
            level, upright = net_of([(4, 2, 8, 2)]), net_of([(2, 4, 2, 8)])
            self.check(level, (one, 2), (other, 2), put_slowly(level, (one, 2), (other, 2)))
            self.check(upright, (2, one), (2, other), put_slowly(upright, (2, one), (2, other)))
            self.assertEqual(len(put(level, (one, 2), (other, 2))[0]), 3)
        net = net_of([(0, 2, 4, 2), (8, 2, 12, 2)])
        self.check(net, (4, 2), (8, 2), (net[0], ((0, 1), (1, 2), (2, 3))))

    def test_along_some_wall_of_several(self):
        net = net_of([(0, 2, 4, 2), (8, 2, 12, 2)])
        self.refused(NoWall, net, (4, 2), (9, 2))
        self.refused(NoWall, net, (3, 2), (8, 2))
        self.refused(NoWall, net, (0, 2), (12, 2))

    def test_what_is_no_pair_of_spots(self):
        for net in (samples.EMPTY, samples.SQUARE, samples.lattice_net(90)):
            for one, other in (
                ((1, 1), (1, 1)), ((1, 1), (2, 2)), ((1, 1), (2, 0)), ((0, 0), (MOST + 1, 0)), ((0, 0), (0, MOST + 1)),
                ((-1, 1), (3, 1)), ((1, -1), (1, 3)), ((1, 1), [1, 2]), ([1, 1], [1, 2]), ((1, 1), (True, 2)),
                ((1, 1), (1, False)), ((1, True), (1, 5)), ((False, 1), (0, 5)), ((1, 1), (1, 2, 3)), ((1, 1), (1,)),
                ((1, 1), 1), ((1, 1), None), ((1, 1), "12"), ((1, 1), ("1", 2)), ((1, 1), (1, None)),
                ((1, 1), ((1,), 2)), ((), ()), (None, None), (0, 1), ("", ""), ((True, 7), (True, 9)),
                ((10 ** 30, 0), (10 ** 30, 1)),
            ):
                self.refused(NoWall, net, one, other)

    def test_anything_as_the_two_spots(self):
        for net in (samples.EMPTY, samples.SQUARE, samples.lattice_net(90)):
            for thing in STRANGE:
                self.refused(NoWall, net, thing, thing)
                if not same(thing, (0, 0)):
                    self.refused(NoWall, net, thing, (0, 5))
                    self.refused(NoWall, net, (1, 1), thing)

    def test_just_sixty_corners_and_one_more(self):
        for many, fits in ((58, True), (59, False), (60, False)):
            net = net_of([(k, 0, k + 1, 0) for k in range(many - 1)])
            self.assertEqual(len(net[0]), many)
            if fits:
                self.assertEqual(len(put(net, (0, 2), (9, 2))[0]), 60)
                self.assertTrue(is_net(put(net, (0, 2), (9, 2))))
            else:
                self.refused(TooMany, net, (0, 2), (9, 2))
        net = net_of([(k, 0, k + 1, 0) for k in range(58)])
        self.assertEqual(len(put(net, (5, 0), (5, 7))[0]), 60)
        self.refused(TooMany, put(net, (5, 0), (5, 7)), (6, 0), (6, 7))
        self.refused(TooMany, put(net, (5, 0), (5, 7)), (58, 0), (59, 0))

    def test_corners_that_are_met_count(self):
        # Two ends and as many new corners as there are walls across: 40 + 2 + 18, and then 19.
        lines = [(2 * k, 0, 2 * k, 4) for k in range(20)]
        net = net_of(lines)
        self.assertEqual([len(part) for part in put(net, (1, 2), (37, 2))], [60, 20 + 18 + 19])
        self.refused(TooMany, net, (1, 2), (39, 2))
        self.assertEqual(len(put(net, (2, 2), (38, 2))[0]), 40 + 19)
        self.assertEqual(len(put(net, (0, 2), (38, 2))[0]), 60)

    def test_just_ninety_walls_and_one_more(self):
        lines = samples.lattice_lines(104)
        net = samples.lattice_net(88)
        for k, fits in ((88, True), (89, True), (90, False)):
            x, y, u, v = lines[k]
            if fits:
                net = put(net, (x, y), (u, v))
                self.assertTrue(same(net, samples.lattice_net(k + 1)))
            else:
                self.refused(TooMany, net, (x, y), (u, v))
        self.assertEqual([len(part) for part in net], [60, 90])

    def test_pieces_of_walls_count(self):
        # No new corner but the two ends: each wall cut is one more.
        net = net_of(samples.lattice(range(0, 14, 2), range(0, 14, 2)))
        self.assertEqual([len(part) for part in net], [49, 84])
        self.assertEqual([len(part) for part in put(net, (0, 1), (2, 1))], [51, 87])
        self.assertEqual([len(part) for part in put(net, (0, 1), (4, 1))], [52, 89])
        self.refused(TooMany, net, (0, 1), (6, 1))

    def test_no_wall_goes_ahead_of_too_many(self):
        net = samples.lattice_net(90)
        self.refused(TooMany, net, (0, 20), (5, 20))
        self.refused(NoWall, net, (0, 0), (40, 0))
        self.refused(NoWall, net, (0, 20), (MOST + 1, 20))
        self.refused(NoWall, net, (0, 20), (0, 20))
        chain = net_of([(k, 0, k + 1, 0) for k in range(59)])
        self.refused(NoWall, chain, (58, 0), (70, 0))
        self.refused(TooMany, chain, (59, 0), (70, 0))

    def test_as_spot_by_spot(self):
        chance = random.Random(5)
        answers = {}
        nets = list(samples.NAMED.values()) + samples.chance_nets()
        # A net of 58 corners, where many lines meet a wall: there is often one too many.
        nets += [net_of([(3 * k, j, 3 * k, j + 6) for k in range(10) for j in (0, 7, 14)][1:])] * 20
        for net in nets:
            for _ in range(12):
                one, other = chance_line(chance, net)
                expected = put_slowly(net, one, other)
                kind = expected if isinstance(expected, type) else tuple
                answers[kind] = answers.get(kind, 0) + 1
                if kind is tuple:
                    self.check(net, one, other, expected)
                    self.assertTrue(rooms_shown(expected, rooms(expected)))
                else:
                    self.refused(expected, net, one, other)
        self.assertEqual(set(answers), {tuple, NoWall, TooMany})
        self.assertGreater(min(answers.values()), 20)

    def test_many_put_one_behind_another(self):
        for seed in range(12):
            chance = random.Random(seed)
            net = samples.EMPTY
            for _ in range(25):
                ends = [chance.randrange(12), chance.randrange(12), chance.randrange(12)]
                one, other = (ends[0], ends[1]), (ends[0], ends[2])
                if chance.randrange(2):
                    one, other = one[::-1], other[::-1]
                expected = NoWall if one == other else put_slowly(net, one, other)
                if isinstance(expected, type):
                    self.refused(expected, net, one, other)
                else:
                    self.check(net, one, other, expected)
                    net = expected
                    self.assertEqual(len(rooms(net)), len(net[1]) - len(net[0]) + len(parts(net)))

    def test_nothing_is_changed(self):
        for one, other in (((1, 1), (1, 2)), ([1, 1], [1, 2]), ([[1], []], None), ((0, 0), (4, 0))):
            before = copy.deepcopy((samples.SQUARE, one, other))
            try:
                put(samples.SQUARE, one, other)
            except NoWall:
                pass
            self.assertTrue(same((samples.SQUARE, one, other), before))


class TakeTest(unittest.TestCase):
    def check(self, net, a, b, expected):
        for ends in ((a, b), (b, a), (a, b)):
            self.assertTrue(same(take(net, *ends), expected))
        self.assertTrue(is_net(expected))

    def refused(self, net, a, b):
        for ends in ((a, b), (b, a)):
            with self.assertRaises(NoWall):
                take(net, *ends)

    def test_the_only_wall(self):
        self.check(samples.LONE, 0, 1, samples.EMPTY)

    def test_corners_of_other_walls_stay(self):
        self.check(samples.SQUARE, 0, 1, (samples.SQUARE[0], ((0, 2), (1, 3), (2, 3))))

    def test_corners_without_walls_are_gone(self):
        corners, walls = samples.FREE
        self.check(samples.FREE, 4, 6, (corners[:6], tuple(wall for wall in walls if wall != (4, 6))))
        gone = tuple(corner for corner in corners if corner[0] != 2)
        self.check(samples.FREE, 2, 4, (gone, tuple(wall for wall in walls if wall != (2, 4))))

    def test_corners_between_two_walls_in_a_line_stay(self):
        net = net_of([(0, 0, 4, 0), (4, 0, 9, 0), (4, 0, 4, 5)])
        self.check(net, 1, 2, (((0, 0, 0), (1, 4, 0), (3, 9, 0)), ((0, 1), (1, 3))))

    def test_numbers_stay(self):
        net = net_of([(0, 0, 4, 0), (4, 0, 9, 0)], (7, 999, 3))
        self.check(net, 7, 999, (((3, 9, 0), (999, 4, 0)), ((999, 3),)))

    def test_a_put_wall_taken(self):
        # The wall that was cut stays cut.
        new = take(put(samples.SQUARE, (4, 1), (9, 1)), 4, 5)
        corners = samples.SQUARE[0] + ((4, 4, 1),)
        self.assertEqual(new, (corners, ((0, 1), (0, 2), (1, 3), (2, 4), (4, 3))))
        self.assertEqual(take(put(samples.SQUARE, (6, 1), (9, 1)), 5, 4), samples.SQUARE)

    def test_each_wall_of_many_nets(self):
        for net in list(samples.NAMED.values()) + samples.chance_nets()[::5] + samples.great_nets():
            for a, b in net[1]:
                walls = tuple(wall for wall in net[1] if wall != (a, b))
                ends = {end for wall in walls for end in wall}
                self.check(net, b, a, (tuple(corner for corner in net[0] if corner[0] in ends), walls))

    def test_no_such_wall(self):
        for a, b in ((0, 3), (1, 2), (0, 0), (3, 3), (0, 4), (4, 5), (-1, 0), (0, 1000), (10 ** 30, 1)):
            self.refused(samples.SQUARE, a, b)
        self.refused(samples.EMPTY, 0, 1)
        self.refused(net_of([(0, 0, 4, 0), (4, 0, 9, 0)]), 0, 2)

    def test_truths_are_no_numbers(self):
        for a, b in ((False, True), (0, True), (False, 1), (2, False)):
            self.refused(samples.SQUARE, a, b)

    def test_anything_as_the_two_ends(self):
        for net in (samples.EMPTY, samples.SQUARE, samples.BESIDE):
            for thing in STRANGE:
                self.refused(net, thing, thing)
                if not same(thing, 1):
                    self.refused(net, thing, 0)
                self.refused(net, thing, listed((0, 1)))
        self.refused(samples.SQUARE, (0, 1), (0, 1))
        self.refused(samples.SQUARE, "0", "1")
        self.refused(samples.SQUARE, 0.0, 1.0)

    def test_nothing_is_changed(self):
        for a, b in ((0, 1), ([0], [1]), (None, [[]])):
            before = copy.deepcopy((samples.SQUARE, a, b))
            try:
                take(samples.SQUARE, a, b)
            except NoWall:
                pass
            self.assertTrue(same((samples.SQUARE, a, b), before))


def open_pairs(net):
    """Pairs of corners in a line, none between, no wall from the one to the other: each as a number and a spot."""
    found = []
    for along in (0, 1):
        rows = sorted([((x, y)[::1 - 2 * along], c, (x, y)) for c, x, y in net[0]])
        for (one, a, spot), (other, b, end) in zip(rows, rows[1:]):
            if one[0] == other[0] and (a, b) not in net[1]:
                found.append(((a, spot), (b, end)))
    return found


def places(net):
    """What the walls part, outside among it, each as its cells."""
    return {frozenset(place) for place in samples.flooded(net)}


class RoomsTest(unittest.TestCase):
    def test_one_room_becomes_two(self):
        new = put(samples.SQUARE, (1, 0), (1, 3))
        self.assertEqual(sorted(area for _, _, area in rooms(new)), [3, 9])
        self.assertEqual([area for _, _, area in rooms(take(new, 4, 5))], [12])

    def test_outside_becomes_a_room_more(self):
        net = net_of([(0, 0, 4, 0), (0, 0, 0, 3), (0, 3, 4, 3)])
        self.assertEqual(rooms(net), ())
        self.assertEqual([area for _, _, area in rooms(put(net, (4, 3), (4, 0)))], [12])
        self.assertEqual(rooms(take(put(net, (4, 3), (4, 0)), 2, 3)), ())

    def test_rims_go_with_what_they_lie_in(self):
        # An oblong with two lone walls in it is cut between these, and taken together again.
        net = net_of(box(0, 0, 20, 9) + [(4, 4, 6, 4), (14, 4, 16, 4)])
        self.assertEqual([len(rims) for _, rims, _ in rooms(net)], [2])
        new = put(net, (10, 0), (10, 9))
        self.assertEqual([len(rims) for _, rims, _ in rooms(new)], [1, 1])
        self.assertEqual([len(rims) for _, rims, _ in rooms(take(new, 8, 9))], [2])

    def test_a_wall_put_between_two_corners_and_taken(self):
        within = across = 0
        for net in list(samples.NAMED.values()) + samples.chance_nets()[::2]:
            for (a, one), (b, other) in open_pairs(net):
                new = put_slowly(net, one, other)
                if isinstance(new, type) or len(new[1]) != len(net[1]) + 1:
                    continue
                new = put(net, one, other)
                joined = any(a in part and b in part for part in parts(net))
                within, across = within + joined, across + (not joined)
                self.compare(net, new, joined)
                self.assertEqual(take(new, a, b), net)
        self.assertGreater(within, 90)
        self.assertGreater(across, 50)

    def compare(self, net, new, joined):
        """Behind one wall put between corners: one place is parted in two where these were of one part, else none."""
        before, after = places(net), places(new)
        if not joined:
            self.assertEqual(before, after)
            self.assertEqual(len(rooms(new)), len(rooms(net)))
            return
        self.assertEqual(len(rooms(new)), len(rooms(net)) + 1)
        (gone,), come = before - after, after - before
        self.assertEqual(len(come), 2)
        self.assertEqual(frozenset().union(*come), gone)
        # A room that isn't parted is told as it was.
        numbers = {room: samples.cell_left_of(net, samples.turns(room[0])[0]) for room in rooms(net)}
        for room, cell in numbers.items():
            if cell not in gone:
                self.assertIn(room, rooms(new))
