"""Walls put and taken."""

from wallplan.errors import NoWall, TooMany
from wallplan.nets import GREATEST_NUMBER, MOST_CORNERS, MOST_WALLS
from wallplan.nets import is_number, is_spot, is_straight, lines, overlap, spots


def line_between(one, other):
    """The line between two spots, anything, or NoWall where no wall can go from the one to the other."""
    if not is_spot(one) or not is_spot(other):
        raise NoWall("a wall goes from a spot to a spot")
    line = (min(one, other), max(one, other))
    if not is_straight(line):
        raise NoWall("a wall goes level or upright from one spot to another one")
    return line


def met_spots(net, line):
    """The spots that a line has in common with walls, or NoWall where there is more than one in common with one."""
    shared = [overlap(line, own) for own in lines(net)]
    met = [oblong for oblong in shared if oblong is not None]
    # Lines across one another have one spot in common at most, so a longer stretch is that of a wall along it.
    if any([low != high for low, high in met]):
        raise NoWall("a wall lies there already")
    return [low for low, high in met]


def with_corners(net, wanted):
    """The net's corners, and new ones at those of the wanted spots that have none, rising."""
    taken = spots(net)
    free = [c for c in range(GREATEST_NUMBER + 1) if c not in taken]
    fresh = sorted(set(wanted) - {corner[1:] for corner in net[0]})
    return sorted(list(net[0]) + [(c, x, y) for c, (x, y) in zip(free, fresh)])


def walls_on(corners, line):
    """The walls between neighbouring corners on a line."""
    on = sorted([(x, y, c) for c, x, y in corners if overlap(line, ((x, y), (x, y))) is not None])
    numbers = [c for x, y, c in on]
    return list(zip(numbers, numbers[1:]))


def put(net, one, other):
    """The net with a wall put from a spot to another one; NoWall, TooMany."""
    line = line_between(one, other)
    corners = with_corners(net, list(line) + met_spots(net, line))
    walls = sorted([wall for own in lines(net) + [line] for wall in walls_on(corners, own)])
    if len(corners) > MOST_CORNERS or len(walls) > MOST_WALLS:
        raise TooMany("there would be too many corners or walls")
    return (tuple(corners), tuple(walls))


def take(net, a, b):
    """The net without the wall between two corners, told in any order, and without corners that have none; NoWall."""
    if not is_number(a) or not is_number(b) or ((a, b) not in net[1] and (b, a) not in net[1]):
        raise NoWall("there is no such wall")
    walls = tuple([wall for wall in net[1] if wall != (a, b) and wall != (b, a)])
    corners = tuple([corner for corner in net[0] if any([corner[0] in wall for wall in walls])])
    return (corners, walls)
