"""Ways out: where doors lead, by how many of them one comes outside, and whether it is shown that it is so."""

from wallplan.nets import is_number
from wallplan.openings import DOOR
from wallplan.rooms import rooms, side_homes

# What lies outside, where places are told by numbers.
OUTSIDE = -1


def place_beside(homes, side):
    """The place to the left of a side: a room's number, or outside."""
    return OUTSIDE if homes[side] is None else homes[side]


def leads(plan):
    """Of each door a tuple (name, one, other), rising: the places between which it leads, the lesser one first."""
    net, holds, openings, things = plan
    homes = side_homes(net)
    told = []
    for name, kind, (a, b), end, at, width in openings:
        if kind == DOOR:
            one, other = sorted([place_beside(homes, (a, b)), place_beside(homes, (b, a))])
            told.append((name, one, other))
    return tuple(told)


def wide_leads(plan, w):
    """What leads tells of the doors that are wide enough, and the same the other way about."""
    widths = {opening[0]: opening[5] for opening in plan[2]}
    wide = [lead for lead in leads(plan) if widths[lead[0]] >= w]
    return wide + [(name, other, one) for name, one, other in wide]


def place_depths(wide):
    """Of each place from which one comes outside by these doors the least number of them."""
    found = {OUTSIDE: 0}
    edge = [OUTSIDE]
    while edge:
        fresh = sorted({far for name, near, far in wide if near in edge and far not in found})
        for place in fresh:
            found[place] = found[edge[0]] + 1
        edge = fresh
    return found


def depths(plan, w):
    """Of each room the least number of doors, all wide enough, by which one comes outside, or None."""
    found = place_depths(wide_leads(plan, w))
    return tuple([found.get(room) for room in range(len(rooms(plan[0])))])


def way_from(wide, found, room):
    """The names of as many doors as a room's depth that lead one behind another from it to outside."""
    names = []
    place = room
    while place != OUTSIDE:
        steps = [(name, far) for name, near, far in wide if near == place and found[far] == found[place] - 1]
        name, place = steps[0]
        names.append(name)
    return tuple(names)


def ways(plan, w):
    """Of each room a least way out by doors that are wide enough, or None."""
    wide = wide_leads(plan, w)
    found = place_depths(wide)
    many = len(rooms(plan[0]))
    return tuple([way_from(wide, found, room) if room in found else None for room in range(many)])


def do_agree(depth, other):
    """Whether a door may lead between places of these depths."""
    if depth is None or other is None:
        return depth is None and other is None
    return abs(depth - other) <= 1


def leads_on(wide, known, room):
    """Whether a door leads from a room to a place with a depth less by one, where it has one."""
    if known[room] is None:
        return True
    return any([near == room and known[far] == known[room] - 1 for name, near, far in wide])


def are_depths(plan, w, thing):
    """Whether it, anything, is shown to be the rooms' depths, by looking at each door and room alone."""
    if not isinstance(thing, tuple) or len(thing) != len(rooms(plan[0])):
        return False
    if not all([depth is None or (is_number(depth) and depth >= 1) for depth in thing]):
        return False
    known = {room: depth for room, depth in enumerate(thing)}
    known[OUTSIDE] = 0
    wide = wide_leads(plan, w)
    if not all([do_agree(known[near], known[far]) for name, near, far in wide]):
        return False
    return all([leads_on(wide, known, room) for room in known if room != OUTSIDE])
