"""Rooms looked at [2, 12]."""

import copy
import unittest

from tests import samples
from tests.samples import STRANGE, at_path, box, changed, listed, net_of, paths, same
from wallplan.nets import is_net
from wallplan.rings import area_of
from wallplan.roomlook import rooms_shown
from wallplan.rooms import outside, rooms


def turned_rings(ring):
    """A ring begun with each of its other sides, and turned about."""
    return [ring[k:] + ring[:k] for k in range(1, len(ring))] + [ring[::-1], ring[:1] + ring[:0:-1]]


def altered_rings(ring):
    """Rings that are nearly this one."""
    found = turned_rings(ring) + [ring + ring, ring + ring[:1], ring[:1] + ring, ()]
    for k in range(len(ring)):
        found.append(ring[:k] + ring[k + 1:])
        found.append(ring[:k] + ring[k:k + 1] + ring[k:])
    return found


def altered_rows(rows):
    """Tuples that are nearly this one: something left out, told twice, or exchanged."""
    found = [rows[::-1], rows + rows]
    for k in range(len(rows)):
        found.append(rows[:k] + rows[k + 1:])
        found.append(rows[:k + 1] + rows[k:])
        found.append(rows[:k] + rows[k + 1:k + 2] + rows[k:k + 1] + rows[k + 2:])
    return found


def altered(net):
    """Many things that are nearly what is told of the net's rooms; some of them are just that."""
    told = rooms(net)
    found = altered_rows(told) + [told + (None,), list(told), listed(told), told[0] if told else None]
    for number, (ring, rims, area) in enumerate(told):
        found += [changed(told, (number, 0), other) for other in altered_rings(ring)]
        found += [changed(told, (number, 1), other) for other in altered_rows(rims)]
        found += [changed(told, (number, 2), other) for other in (area + 1, area - 1, -area, 0, 2 * area, str(area))]
        found += [changed(told, (number,), other) for other in ((ring, rims), (ring, area, rims), [ring, rims, area])]
        for at, rim in enumerate(rims):
            found += [changed(told, (number, 1, at), other) for other in altered_rings(rim)]
    return found


def rims_by_homes(net):
    """All rims, each with the number of the room in which it lies, or None."""
    found = [(rim, number) for number, room in enumerate(rooms(net)) for rim in room[1]]
    return found + [(rim, None) for rim in outside(net)]


def told_with(net, homes):
    """What would be told of the rooms if the rims were to lie there, areas and orders being as they should be."""
    told = []
    for number, (ring, _, _) in enumerate(rooms(net)):
        rims = tuple(sorted(rim for rim, home in homes if home == number))
        told.append((ring, rims, area_of(net, ring) + sum(area_of(net, rim) for rim in rims)))
    return tuple(told)


class TrueTest(unittest.TestCase):
    def test_named_nets(self):
        for net in samples.NAMED.values():
            self.assertIs(rooms_shown(net, rooms(net)), True)

    def test_nets_by_chance(self):
        for net in samples.chance_nets():
            self.assertIs(rooms_shown(net, rooms(net)), True)

    def test_great_nets(self):
        for net in samples.great_nets():
            self.assertTrue(is_net(net))
            self.assertIs(rooms_shown(net, rooms(net)), True)

    def test_by_hand(self):
        self.assertIs(rooms_shown(samples.SQUARE, (((0, 2, 3, 1), (), 12),)), True)
        self.assertIs(rooms_shown(samples.LONE, ()), True)
        self.assertIs(rooms_shown(samples.EMPTY, ()), True)
        self.assertIs(rooms_shown(samples.FREE, (((0, 3, 4, 2, 4, 5, 1), (), 24),)), True)
        nest = (
            ((0, 12, 13, 1), ((2, 3, 11, 10),), 176), ((2, 10, 11, 3), ((4, 5, 9, 8),), 124),
            ((4, 8, 9, 5), ((6, 7),), 100),
        )
        self.assertIs(rooms_shown(samples.NEST, nest), True)


class FalseTest(unittest.TestCase):
    def test_by_hand(self):
        for thing in (
            (), (((0, 2, 3, 1), (), 11),), (((0, 2, 3, 1), (), 13),), (((0, 2, 3, 1), (), -12),),
            (((2, 3, 1, 0), (), 12),), (((0, 1, 3, 2), (), 12),), (((0, 1, 3, 2), (), -12),),
            (((0, 2, 3, 1, 0, 2, 3, 1), (), 24),), (((0, 2, 3, 1, 0, 2, 3, 1), (), 12),), (((0, 2, 3), (), 12),),
            (((0, 2, 3, 1), (), 12), ((0, 2, 3, 1), (), 12)), (((0, 2, 3, 1), ((0, 1, 3, 2),), 0),),
            (((0, 2, 3, 1), ((0, 1, 3, 2),), 12),), (((0, 2, 3, 1), ((),), 12),), (((0, 2, 3, 1), ()),),
            (((0, 2, 3, 1), (), 12, None),), ([(0, 2, 3, 1), (), 12],), (([0, 2, 3, 1], (), 12),),
            (((0, 2, 3, 1), [], 12),), [((0, 2, 3, 1), (), 12)], (((False, 2, 3, 1), (), 12),),
            (((0, 2, 3, True), (), 12),), (((0, 2, 3, 1), (), "12"),), (((0, 2, 3, 1), (), None),),
            (((0, 2, 3, 1), None, 12),), (((0, 2, 3, 4), (), 12),), (((0, 2, -1, 1), (), 12),), ((0, 2, 3, 1), (), 12),
            (((0, 2, 3, 1), (), 12), ((0, 1, 3, 2), (), -12)), (((), (), 0),), (((0,), (), 0),), (((), (), 12),),
        ):
            self.assertIs(rooms_shown(samples.SQUARE, thing), False, thing)

    def test_a_truth_in_the_place_of_an_area(self):
        net = net_of(box(4, 4, 5, 5))
        self.assertIs(rooms_shown(net, (((0, 2, 3, 1), (), 1),)), True)
        self.assertIs(rooms_shown(net, (((0, 2, 3, 1), (), True),)), False)

    def test_what_lies_outside_is_told_by_no_room(self):
        for net in (samples.LONE, samples.FREE, samples.BESIDE):
            for rim in outside(net):
                told = rooms(net)
                self.assertIs(rooms_shown(net, outside(net)), False)
                self.assertIs(rooms_shown(net, tuple(sorted(told + ((rim, (), area_of(net, rim)),)))), False)

    def test_no_room_of_the_net_without_walls(self):
        for thing in (((),), (((), (), 0),), (((0, 1), (), 0),), [], None, "", 0, (None,), ((), ())):
            self.assertIs(rooms_shown(samples.EMPTY, thing), False, thing)

    def test_anything(self):
        for net in samples.NAMED.values():
            for thing in STRANGE:
                self.assertIs(rooms_shown(net, thing), same(thing, rooms(net)), thing)

    def test_strange_things_in_each_place(self):
        told = rooms(samples.NEST)
        for path in paths(told):
            for thing in STRANGE:
                other = changed(told, path, thing)
                self.assertIs(rooms_shown(samples.NEST, other), same(other, told), other)
            old = at_path(told, path)
            if isinstance(old, tuple):
                self.assertIs(rooms_shown(samples.NEST, changed(told, path, list(old))), False)
            elif old in (0, 1):
                self.assertIs(rooms_shown(samples.NEST, changed(told, path, bool(old))), False)

    def test_what_is_nearly_so(self):
        nets = list(samples.NAMED.values()) + [samples.chance_net(k) for k in range(0, 60, 8)]
        nets += [samples.chance_nest(k) for k in range(0, 40, 6)]
        for net in nets:
            told = rooms(net)
            for thing in altered(net):
                self.assertIs(rooms_shown(net, thing), same(thing, told), thing)

    def test_one_rim_put_elsewhere(self):
        many = 0
        for net in list(samples.NAMED.values()) + [samples.chance_nest(k) for k in range(20)]:
            homes = rims_by_homes(net)
            self.assertEqual(told_with(net, homes), rooms(net))
            for k, (rim, home) in enumerate(homes):
                for other in [None, *range(len(rooms(net)))]:
                    if other != home:
                        many += 1
                        thing = told_with(net, homes[:k] + [(rim, other)] + homes[k + 1:])
                        self.assertIs(rooms_shown(net, thing), False, thing)
        self.assertGreater(many, 100)

    def test_all_rims_of_a_room_put_elsewhere_together(self):
        # Each one but the first then lies where the one west of it is told to lie.
        homes = rims_by_homes(samples.BESIDE)
        for other in (None, 1, 2, 5):
            thing = told_with(samples.BESIDE, [(rim, other if home == 0 else home) for rim, home in homes])
            self.assertIs(rooms_shown(samples.BESIDE, thing), False)
        thing = told_with(samples.BESIDE, [(rim, 0) for rim, home in homes])
        self.assertIs(rooms_shown(samples.BESIDE, thing), False)

    def test_rings_put_together_at_a_crossing(self):
        # Each side is told once, and the areas are right, but behind some sides comes not the next one.
        first, second, third, fourth = rooms(samples.CROSS)
        both = ((0, 3, 4, 7, 8, 5, 4, 1), (), first[2] + fourth[2])
        self.assertIs(rooms_shown(samples.CROSS, (both, second, third)), False)
        both = ((1, 4, 3, 6, 7, 4, 5, 2), (), second[2] + third[2])
        self.assertIs(rooms_shown(samples.CROSS, tuple(sorted((first, both, fourth)))), False)

    def test_a_ring_told_in_two(self):
        # The free wall's two sides are told as a rim that lies in the room.
        self.assertIs(rooms_shown(samples.FREE, (((0, 3, 4, 5, 1), ((2, 4),), 24),)), False)
        self.assertIs(rooms_shown(samples.FREE, (((0, 3, 4, 5, 1), (), 24),)), False)

    def test_a_room_told_as_a_rim(self):
        # Each side is told once, where it lies, and the areas come to what is told.
        for size in (1, 2, 3):
            net = net_of(box(0, 0, 9, 9) + box(4, 4, 4 + size, 4 + size))
            (ring, rims, _), (inner, _, area) = rooms(net)
            self.assertEqual(area, size * size)
            for whole in (81, 81 - area, 81 - 2 * area):
                self.assertIs(rooms_shown(net, ((ring, tuple(sorted(rims + (inner,))), whole),)), False)
                self.assertIs(rooms_shown(net, ((ring, (inner,), whole),)), False)
            self.assertIs(rooms_shown(net, ((ring, (inner,), 81 + area), (rims[0], (), -area))), False)

    def test_rims_that_lie_in_one_another(self):
        net = net_of(box(0, 0, 3, 3) + box(5, 0, 8, 3))
        first, second = rims_by_homes(net)
        thing = told_with(net, [(first[0], 1), (second[0], 0)])
        self.assertIs(rooms_shown(net, thing), False)

    def test_rooms_of_another_net(self):
        nets = list(samples.NAMED.values()) + [samples.chance_net(k) for k in range(9)]
        for net in nets:
            for other in nets:
                self.assertIs(rooms_shown(net, rooms(other)), rooms(net) == rooms(other))

    def test_great_things(self):
        for net in samples.great_nets():
            told = rooms(net)
            self.assertIs(rooms_shown(net, told[1:] if told else (((0, 1), (), 0),)), False)
            self.assertIs(rooms_shown(net, told + (((0,) * 10000, (), 10 ** 40),)), False)
        self.assertIs(rooms_shown(samples.SQUARE, (((0, 2, 3, 1) * 5000, (), 12),)), False)


class LeftTest(unittest.TestCase):
    def test_nothing_is_changed_and_the_same_is_told_again(self):
        for net in (samples.NEST, samples.BESIDE, samples.FREE):
            for thing in (rooms(net), listed(rooms(net)), [rooms(net)], ([], [[]])):
                before = copy.deepcopy((net, thing))
                answer = rooms_shown(net, thing)
                self.assertIs(rooms_shown(net, thing), answer)
                self.assertTrue(same((net, thing), before))
