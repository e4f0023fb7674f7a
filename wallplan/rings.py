"""Rings: the sides of walls that come one behind another, and the parts of a net."""

from wallplan.nets import spots

EAST = 0
NORTH = 1
WEST = 2
SOUTH = 3

# To the left, straight on, to the right, as added to a way: the order in which walls are looked for.
TURNS = (1, 0, 3)


def way_of(one, other):
    """The way in which one goes from a spot to another one in a line with it."""
    if one[1] == other[1]:
        return EAST if one[0] < other[0] else WEST
    return NORTH if one[1] < other[1] else SOUTH


def sides(net):
    """Each wall's two sides, rising."""
    return sorted(list(net[1]) + [(b, a) for a, b in net[1]])


def next_sides(net):
    """Of each side, rising, the next one."""
    at = spots(net)
    ways = {(a, b): way_of(at[a], at[b]) for a, b in sides(net)}
    ends = {(a, ways[(a, b)]): b for a, b in ways}
    return {side: next_side(ends, side, ways[side]) for side in ways}


def next_side(ends, side, way):
    """The next side behind this one, along which one came this way; ends by corners and the ways from them."""
    a, b = side
    for turn in TURNS:
        ahead = (b, (way + turn) % 4)
        if ahead in ends:
            return (b, ends[ahead])
    return (b, a)


def ring_from(following, first):
    """The ring of a side, begun with it."""
    ring = [first[0]]
    side = following[first]
    while side != first:
        ring.append(side[0])
        side = following[side]
    return tuple(ring)


def ring_sides(ring):
    """The sides of a ring, in their turn."""
    return list(zip(ring, ring[1:] + ring[:1]))


def rings(net):
    """The rings of a net, rising."""
    following = next_sides(net)
    seen = set()
    found = []
    # Sides rise here, so each ring is begun with its least one, and the rings rise by these.
    for first in following:
        if first not in seen:
            ring = ring_from(following, first)
            found.append(ring)
            for side in ring_sides(ring):
                seen.add(side)
    return tuple(found)


def area_of(net, ring):
    """The area of one of the net's rings: above 0 where it goes round a room, else at most 0."""
    at = spots(net)
    double = 0
    for a, b in ring_sides(ring):
        (x, y), (u, v) = at[a], at[b]
        double += x * v - u * y
    return double // 2


def reached(walls, start):
    """The corners to which one comes from this one by these walls, itself too, rising."""
    seen = {start}
    waiting = [start]
    while waiting:
        corner = waiting.pop()
        for wall in walls:
            if corner in wall:
                for end in wall:
                    if end not in seen:
                        seen.add(end)
                        waiting.append(end)
    return tuple(sorted(seen))


def parts(net):
    """The parts of a net, rising."""
    seen = set()
    found = []
    # Corners rise by numbers, so each part is found by its least one, and the parts rise by these.
    for corner in net[0]:
        if corner[0] not in seen:
            part = reached(net[1], corner[0])
            found.append(part)
            for number in part:
                seen.add(number)
    return tuple(found)
