"""Nets: walls, level or upright, that join at corners."""

from wallplan.errors import NoNet

MOST_CORNERS = 60
MOST_WALLS = 90
GREATEST_NUMBER = 999
GREATEST_PLACE = 1000000


def is_number(thing):
    """Whether it is a whole number."""
    # A truth is an int to Python, but no whole number.
    return isinstance(thing, int) and not isinstance(thing, bool)


def is_whole(thing, least, most):
    """Whether it is a whole number from least to most."""
    return is_number(thing) and least <= thing <= most


def is_row(thing, length):
    """Whether it is a tuple of just so many things."""
    return isinstance(thing, tuple) and len(thing) == length


def is_spot(thing):
    """Whether it is a spot."""
    return is_row(thing, 2) and all([is_whole(place, 0, GREATEST_PLACE) for place in thing])


def is_corner(thing):
    """Whether it is made as a corner."""
    return is_row(thing, 3) and is_whole(thing[0], 0, GREATEST_NUMBER) and is_spot(thing[1:])


def is_wall(thing):
    """Whether it is made as a wall, whatever corners there are."""
    return is_row(thing, 2) and all([is_whole(end, 0, GREATEST_NUMBER) for end in thing])


def do_rise(things):
    """Whether each thing is less than the one behind it, so that none is there twice."""
    return all([one < other for one, other in zip(things, things[1:])])


def are_corners(thing):
    """Whether it is a tuple of corners as a net has them, whatever walls there are."""
    if not isinstance(thing, tuple) or len(thing) > MOST_CORNERS:
        return False
    if not all([is_corner(corner) for corner in thing]):
        return False
    if not do_rise([corner[0] for corner in thing]):
        return False
    return len({corner[1:] for corner in thing}) == len(thing)


def are_walls(thing):
    """Whether it is a tuple of walls in a net's order, whatever corners there are."""
    if not isinstance(thing, tuple) or len(thing) > MOST_WALLS:
        return False
    return all([is_wall(wall) for wall in thing]) and do_rise(thing)


def are_joined(corners, walls):
    """Whether each end of a wall is a corner, and each corner an end of a wall."""
    return {end for wall in walls for end in wall} == {corner[0] for corner in corners}


def is_straight(line):
    """Whether a wall between these two spots is level or upright, and not turned about."""
    one, other = line
    return one < other and (one[0] == other[0] or one[1] == other[1])


def overlap(oblong, other):
    """What two closed oblongs, told by their least and greatest spots, have in common, or None; a line is one too."""
    (a, b), (c, d) = oblong, other
    low = (max(a[0], c[0]), max(a[1], c[1]))
    high = (min(b[0], d[0]), min(b[1], d[1]))
    if low[0] > high[0] or low[1] > high[1]:
        return None
    return (low, high)


def meet_well(line, other):
    """Whether two straight walls have no spot in common but one that is an end of both."""
    shared = overlap(line, other)
    if shared is None:
        return True
    low, high = shared
    return low == high and low in line and low in other


def all_meet_well(walls):
    """Whether each two of these straight walls, told as lines, meet well."""
    return all([meet_well(line, other) for k, line in enumerate(walls) for other in walls[:k]])


def spots(net):
    """Each corner's spot by its number."""
    return {c: (x, y) for c, x, y in net[0]}


def lines(net):
    """Each wall's line, in the order of the walls: the spots of its two ends."""
    at = spots(net)
    return [(at[a], at[b]) for a, b in net[1]]


def has_corner(net, thing):
    """Whether it, anything, is the number of one of the net's corners."""
    return is_number(thing) and thing in spots(net)


def is_net(thing):
    """Whether it, anything, is a net."""
    if not is_row(thing, 2):
        return False
    corners, walls = thing
    if not are_corners(corners) or not are_walls(walls) or not are_joined(corners, walls):
        return False
    drawn = lines(thing)
    return all([is_straight(line) for line in drawn]) and all_meet_well(drawn)


def look_net(thing):
    """None where it, anything, is a net, else NoNet."""
    if not is_net(thing):
        raise NoNet("this is no net")
