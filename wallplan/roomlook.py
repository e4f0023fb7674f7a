"""Rooms looked at: whether anything is just what is told of a net's rooms, without seeking them."""

from wallplan.nets import do_rise, is_number, is_row, spots
from wallplan.rings import area_of, next_sides, ring_from, ring_sides
from wallplan.rooms import west_side


def is_ring_row(thing):
    """Whether it is made as a ring, whatever walls there are."""
    return isinstance(thing, tuple) and len(thing) > 0 and all([is_number(corner) for corner in thing])


def is_room_row(thing):
    """Whether it is made as a room, whatever walls there are."""
    if not is_row(thing, 3) or not isinstance(thing[1], tuple) or not is_number(thing[2]):
        return False
    return all([is_ring_row(ring) for ring in room_rings(thing)]) and do_rise(thing[1])


def are_room_rows(thing):
    """Whether it is made as rooms, rising by their rings, whatever walls there are."""
    if not isinstance(thing, tuple) or not all([is_room_row(room) for room in thing]):
        return False
    return do_rise([room[0] for room in thing])


def room_rings(room):
    """A room's ring and its rims."""
    return room[:1] + room[1]


def is_gone_round(following, ring):
    """Whether behind each of a ring's sides comes its next one, and the least one is the first."""
    own = ring_sides(ring)
    if not all([side in following for side in own]):
        return False
    behind = own[1:] + own[:1]
    return own[0] == min(own) and all([following[side] == after for side, after in zip(own, behind)])


def told_homes(told):
    """Of each told side the number of its room."""
    return {
        side: number
        for number, room in enumerate(told) for ring in room_rings(room) for side in ring_sides(ring)
    }


def lies_at(net, homes, rim, number):
    """Whether a rim lies in the room of this number, or outside where it is None, if those west of it lie well."""
    at = spots(net)
    x, y = min([at[c] for c in rim])
    # Outside is None: what lies behind a side that isn't told, and where there is no wall to the west.
    return homes.get(west_side(net, x - 1, y)) == number


def is_room_shown(net, homes, number, room):
    """Whether a room's areas are as told, and its rims lie in it."""
    ring, rims, area = room
    lost = [area_of(net, rim) for rim in rims]
    if area_of(net, ring) <= 0 or max(lost, default=0) > 0:
        return False
    if area != area_of(net, ring) + sum(lost):
        return False
    return all([lies_at(net, homes, rim, number) for rim in rims])


def rest_is_outside(net, following, homes):
    """Whether all sides that aren't told are of rims that lie outside."""
    rest = [ring_from(following, side) for side in following if side not in homes]
    return all([area_of(net, ring) <= 0 and lies_at(net, homes, ring, None) for ring in rest])


def rooms_shown(net, thing):
    """Whether it, anything, is just what is told of the net's rooms, kinds and all."""
    if not are_room_rows(thing):
        return False
    following = next_sides(net)
    told = [ring for room in thing for ring in room_rings(room)]
    if not all([is_gone_round(following, ring) for ring in told]):
        return False
    homes = told_homes(thing)
    # Where a side is told twice there are fewer homes than told sides.
    if len(homes) != sum([len(ring) for ring in told]):
        return False
    if not all([is_room_shown(net, homes, number, room) for number, room in enumerate(thing)]):
        return False
    return rest_is_outside(net, following, homes)
