"""Runs, and walls moved [2, 3, 16, 17, 18]."""

import copy
import random
import unittest

from tests import samples
from tests.samples import STRANGE, box, net_of, same, turned
from wallplan.errors import NoAxis, NoCorner, NoMove
from wallplan.moves import move, run
from wallplan.nets import is_net
from wallplan.rings import rings
from wallplan.roomlook import rooms_shown
from wallplan.rooms import outside, rooms

MOST = 10 ** 6


def run_slowly(net, c):
    """The run along "x": corners joined by upright walls, by going on until nothing more comes."""
    at = {c: x for c, x, _ in net[0]}
    found = {c}
    while True:
        more = {end for wall in net[1] if at[wall[0]] == at[wall[1]] and found & set(wall) for end in wall}
        if more <= found:
            return tuple(sorted(found))
        found |= more


def move_slowly(net, c, d):
    """What [17] tells along "x", spot by spot: a net, or NoMove."""
    own = run_slowly(net, c)
    at = {c: (x, y) for c, x, y in net[0]}
    x = at[c][0]
    if not 0 <= x + d <= MOST:
        return NoMove
    ys = [at[k][1] for k in own]
    strip = samples.spots_on((min(x, x + d), min(ys), max(x, x + d), max(ys)))
    others = {at[k] for k in at if k not in own}
    for a, b in net[1]:
        if at[a][0] == at[b][0] and a not in own:
            others |= samples.spots_on((*at[a], *at[b]))
    if strip & others:
        return NoMove
    return tuple((k, x + d if k in own else x, y) for k, x, y in net[0]), net[1]


class RunTest(unittest.TestCase):
    def test_along_both_axes(self):
        self.assertEqual(run(samples.SQUARE, 0, "x"), (0, 1))
        self.assertEqual(run(samples.SQUARE, 1, "x"), (0, 1))
        self.assertEqual(run(samples.SQUARE, 3, "x"), (2, 3))
        self.assertEqual(run(samples.SQUARE, 0, "y"), (0, 2))
        self.assertEqual(run(samples.SQUARE, 3, "y"), (1, 3))
        for c, upright, level in ((0, (0, 1, 2), (0, 3, 6)), (4, (3, 4, 5), (1, 4, 7)), (8, (6, 7, 8), (2, 5, 8))):
            self.assertEqual(run(samples.CROSS, c, "x"), upright)
            self.assertEqual(run(samples.CROSS, c, "y"), level)

    def test_a_corner_alone(self):
        self.assertEqual(run(samples.FREE, 2, "x"), (2,))
        self.assertEqual(run(samples.FREE, 6, "x"), (6,))
        self.assertEqual(run(samples.FREE, 2, "y"), (2, 4, 6))
        self.assertEqual(run(samples.LONE, 0, "x"), (0, 1))
        self.assertEqual(run(samples.LONE, 0, "y"), (0,))
        self.assertEqual(run(samples.LONE, 1, "y"), (1,))

    def test_walls_in_a_line_that_do_not_join_are_of_two_runs(self):
        net = net_of([(3, 0, 3, 4), (3, 6, 3, 9), (3, 4, 7, 4)])
        self.assertEqual(run(net, 0, "x"), (0, 1))
        self.assertEqual(run(net, 2, "x"), (2, 3))
        self.assertEqual(run(net, 1, "y"), (1, 4))

    def test_it_rises_whatever_the_spots(self):
        net = net_of([(0, k, 0, k + 1) for k in range(4)], (7, 3, 999, 0, 5))
        for c in (7, 3, 999, 0, 5):
            self.assertEqual(run(net, c, "x"), (0, 3, 5, 7, 999))
            self.assertEqual(run(net, c, "y"), (c,))

    def test_every_run_of_many_nets(self):
        for net in list(samples.NAMED.values()) + samples.chance_nets() + samples.great_nets():
            for c, _, _ in net[0]:
                self.assertTrue(same(run(net, c, "x"), run_slowly(net, c)))
                self.assertTrue(same(run(net, c, "y"), run_slowly(turned(net), c)))


class RefusalTest(unittest.TestCase):
    def refused(self, refusal, net, c, axis):
        """By run, and by move whatever the way."""
        for _ in range(2):
            with self.assertRaises(refusal):
                run(net, c, axis)
            for d in (0, 1, -10 ** 9):
                with self.assertRaises(refusal):
                    move(net, c, axis, d)

    def test_no_corner(self):
        for c in (4, -1, 1000, 10 ** 30, None, "0", (0,), [0], True, False, (), 0.0):
            for axis in ("x", "y"):
                self.refused(NoCorner, samples.SQUARE, c, axis)
        for c in (0, 1, None, [[]]):
            self.refused(NoCorner, samples.EMPTY, c, "x")

    def test_no_axis(self):
        for axis in ("", "z", "X", "Y", "xy", " x", "x ", "x\n", None, 0, 1, True, ("x",), ["x"], ["x", "y"], b"x"):
            self.refused(NoAxis, samples.SQUARE, 0, axis)

    def test_no_corner_goes_ahead_of_no_axis(self):
        for c in (4, None, True, [0]):
            for axis in ("z", None, 0, ["x"], ()):
                self.refused(NoCorner, samples.SQUARE, c, axis)

    def test_anything_for_both(self):
        for thing in STRANGE:
            if not same(thing, 1):
                self.refused(NoCorner, samples.SQUARE, thing, "x")
            self.refused(NoAxis, samples.SQUARE, 1, thing)
            for other in STRANGE[::7]:
                self.refused(NoAxis if same(thing, 1) else NoCorner, samples.SQUARE, thing, other)


class MoveTest(unittest.TestCase):
    def goes(self, net, c, d):
        """Along "x", and along "y" in the net turned, it goes there; all corners of the run by as much."""
        own = run_slowly(net, c)
        expected = tuple((k, x + d if k in own else x, y) for k, x, y in net[0]), net[1]
        for _ in range(2):
            self.assertTrue(same(move(net, c, "x", d), expected), (c, d))
            self.assertTrue(same(move(turned(net), c, "y", d), turned(expected)), (c, d))
        self.assertTrue(is_net(expected))

    def stays(self, net, c, d):
        for _ in range(2):
            with self.assertRaises(NoMove):
                move(net, c, "x", d)
            with self.assertRaises(NoMove):
                move(turned(net), c, "y", d)

    def test_by_hand(self):
        walls = samples.SQUARE[1]
        self.assertEqual(move(samples.SQUARE, 2, "x", -3), (((0, 0, 0), (1, 0, 3), (2, 1, 0), (3, 1, 3)), walls))
        self.assertEqual(move(samples.SQUARE, 1, "y", 5), (((0, 0, 0), (1, 0, 8), (2, 4, 0), (3, 4, 8)), walls))
        self.assertEqual(move(samples.SQUARE, 2, "y", 2), (((0, 0, 2), (1, 0, 3), (2, 4, 2), (3, 4, 3)), walls))

    def test_by_nought(self):
        for net in list(samples.NAMED.values()) + samples.chance_nets()[::4] + samples.great_nets():
            for c, _, _ in net[0]:
                for axis in ("x", "y"):
                    self.assertTrue(same(move(net, c, axis, 0), net))

    def test_up_to_what_stands_in_its_way(self):
        for c in (3, 4, 5):
            for d in (-1, 1, 2):
                self.goes(samples.CROSS, c, d)
            for d in (-2, 3, -3, 4, 100):
                self.stays(samples.CROSS, c, d)

    def test_to_the_edges_of_spots(self):
        for c in (2, 3):
            self.goes(samples.SQUARE, c, MOST - 4)
            self.stays(samples.SQUARE, c, MOST - 3)
            self.stays(samples.SQUARE, c, 10 ** 30)
        net = net_of(box(5, 5, 9, 9))
        for c in (0, 1):
            self.goes(net, c, -5)
            self.stays(net, c, -6)
            self.stays(net, c, -10 ** 30)
        self.goes(samples.LONE, 0, MOST - 2)
        self.stays(samples.LONE, 0, MOST - 1)
        self.goes(samples.LONE, 1, -2)
        self.stays(samples.LONE, 1, -3)

    def test_a_corner_in_the_strip(self):
        # A lone wall's end, level with the run's lower end, its middle, its upper end; then just beyond both.
        for y, free in ((4, False), (6, False), (8, False), (3, True), (9, True)):
            net = net_of([(2, 4, 2, 8), (5, y, 9, y)])
            self.goes(net, 0, 2)
            (self.goes if free else self.stays)(net, 0, 3)
            (self.goes if free else self.stays)(net, 0, 20)

    def test_the_end_of_an_upright_wall_in_the_strip(self):
        ends = ((0, 3, True), (0, 4, False), (0, 6, False), (8, 11, False), (9, 11, True), (5, 6, False))
        for low, high, free in ends:
            net = net_of([(2, 4, 2, 8), (5, low, 5, high)])
            self.goes(net, 0, 2)
            (self.goes if free else self.stays)(net, 0, 3)
            (self.goes if free else self.stays)(net, 0, 20)

    def test_a_wall_that_goes_across_the_strip(self):
        # No corner lies in the strip, only spots of the upright wall.
        net = net_of([(2, 4, 2, 8), (5, 0, 5, 12)])
        self.goes(net, 0, 2)
        for d in (3, 4, 50):
            self.stays(net, 0, d)
        self.goes(net, 2, -2)
        for d in (-3, -4):
            self.stays(net, 2, d)

    def test_a_corner_alone_moved(self):
        self.goes(samples.FREE, 2, -2)
        self.stays(samples.FREE, 2, -3)
        self.goes(samples.FREE, 2, 2)
        self.stays(samples.FREE, 2, 3)
        self.goes(samples.FREE, 6, -1)
        self.stays(samples.FREE, 6, -2)
        self.goes(samples.FREE, 6, 500)

    def test_what_lies_behind_it_or_beside_it_does_not_stand_in_its_way(self):
        net = net_of([(4, 4, 4, 8), (3, 6, 3, 7), (9, 0, 9, 3), (9, 9, 9, 12), (6, 2, 8, 2)])
        at = {(x, y): c for c, x, y in net[0]}
        self.goes(net, at[4, 4], 30)
        self.stays(net, at[4, 4], -1)

    def test_walls_joined_to_it_become_longer_and_shorter(self):
        net = net_of([(0, 0, 4, 0), (4, 0, 9, 0), (4, 0, 4, 5), (0, 5, 4, 5)])
        c = 2
        self.assertEqual(run(net, c, "x"), (2, 3))
        for d in (-3, -1, 3, 4):
            self.goes(net, c, d)
        # The free ends of joined level walls are corners in the strip; beyond the east one it can't go.
        self.stays(net, c, -4)
        self.stays(net, c, 5)

    def test_nothing_is_leapt_over(self):
        # There would be room behind what stands there.
        net = net_of(box(0, 0, 9, 9) + [(4, 4, 4, 5), (6, 4, 6, 5)])
        at = {(x, y): c for c, x, y in net[0]}
        for d in (-3, -1, 1):
            self.goes(net, at[4, 4], d)
        for d in (2, 3, 4, 5, 6, 20, -4, -5):
            self.stays(net, at[4, 4], d)

    def test_a_run_in_a_line_with_another_one(self):
        # The two don't join, so the one is moved without the other one.
        net = net_of([(3, 0, 3, 4), (3, 6, 3, 9), (0, 4, 3, 4)])
        at = {(x, y): c for c, x, y in net[0]}
        self.goes(net, at[3, 0], 4)
        self.goes(net, at[3, 0], -2)
        self.stays(net, at[3, 0], -3)
        self.goes(net, at[3, 6], -3)
        self.stays(net_of([(3, 0, 3, 4), (5, 4, 5, 9)]), 0, 2)
        self.goes(net_of([(3, 0, 3, 4), (5, 5, 5, 9)]), 0, 2)

    def test_as_spot_by_spot(self):
        chance = random.Random(8)
        answers = [0, 0]
        for net in list(samples.NAMED.values()) + samples.chance_nets():
            for c, _, _ in chance.sample(net[0], min(len(net[0]), 12)):
                for d in (chance.randrange(-12, 13), chance.choice([-2, -1, 1, 2])):
                    expected = move_slowly(net, c, d)
                    answers[expected is NoMove] += 1
                    if expected is NoMove:
                        self.stays(net, c, d)
                    else:
                        self.goes(net, c, d)
        self.assertGreater(min(answers), 300)


class KeptTest(unittest.TestCase):
    """No room is lost: [18]."""

    def compare(self, net, new):
        self.assertTrue(is_net(new))
        self.assertEqual(new[1], net[1])
        self.assertEqual(rings(new), rings(net))
        self.assertEqual(outside(new), outside(net))
        self.assertEqual([room[:2] for room in rooms(new)], [room[:2] for room in rooms(net)])
        self.assertTrue(rooms_shown(new, rooms(new)))
        for _, _, area in rooms(new):
            self.assertGreater(area, 0)

    def test_each_move_of_many_nets(self):
        chance = random.Random(4)
        many = 0
        for net in list(samples.NAMED.values()) + samples.chance_nets() + samples.great_nets():
            for c, _, _ in chance.sample(net[0], min(len(net[0]), 8)):
                for axis in ("x", "y"):
                    d = chance.choice([-9, -4, -3, -2, -1, 1, 2, 3, 5, 8, 1000])
                    try:
                        new = move(net, c, axis, d)
                    except NoMove:
                        continue
                    many += 1
                    self.compare(net, new)
                    self.assertTrue(same(move(new, c, axis, -d), net))
        self.assertGreater(many, 300)

    def test_many_moves_one_behind_another(self):
        for seed in range(8):
            chance = random.Random(seed)
            first = net = chance.choice([samples.NEST, samples.BESIDE, samples.CROSS, samples.chance_nest(seed)])
            moves = 0
            for _ in range(120):
                c = chance.choice(net[0])[0]
                try:
                    net = move(net, c, chance.choice("xy"), chance.randrange(-4, 5))
                    moves += 1
                except NoMove:
                    continue
            self.assertGreater(moves, 20)
            self.compare(first, net)

    def test_areas_by_hand(self):
        self.assertEqual([area for _, _, area in rooms(move(samples.CROSS, 4, "x", 1))], [9, 12, 6, 8])
        self.assertEqual([area for _, _, area in rooms(move(samples.NEST, 4, "x", -2))], [176, 104, 120])

    def test_nothing_is_changed(self):
        for c, axis, d in ((2, "x", 1), (2, "x", -9), ([2], ["x"], 1), (2, [["x"]], 1)):
            before = copy.deepcopy((samples.SQUARE, c, axis))
            try:
                move(samples.SQUARE, c, axis, d)
            except (NoCorner, NoAxis, NoMove):
                pass
            self.assertTrue(same((samples.SQUARE, c, axis), before))
