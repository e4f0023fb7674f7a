"""Things: furniture that stands in one room, apart from other things and not ahead of doors."""

from wallplan.holds import is_name
from wallplan.nets import GREATEST_PLACE, is_row, is_spot, is_whole, lines
from wallplan.openings import DOOR, stretch
from wallplan.rooms import cell_at, home_at, side_homes


def is_thing(thing):
    """Whether it, anything, is made as a thing."""
    if not is_row(thing, 5) or not is_name(thing[0]) or not is_spot(thing[1:3]):
        return False
    return all([is_whole(size, 1, GREATEST_PLACE) for size in thing[3:]])


def places(net, opening):
    """The places of a door that stands, as an oblong (x, y, w, h)."""
    x, y, u, v = stretch(net, opening)
    width = opening[5]
    if x == u:
        west = max(0, x - width)
        return (west, y, x + width - west, width)
    south = max(0, y - width)
    return (x, south, width, y + width - south)


def are_apart(oblong, other):
    """Whether two oblongs (x, y, w, h) have nothing within in common; a wall is one without width or height."""
    x, y, w, h = oblong
    u, v, wide, high = other
    return x + w <= u or u + wide <= x or y + h <= v or v + high <= y


def is_clear(oblong, others):
    """Whether an oblong is apart from all others."""
    return all([are_apart(oblong, other) for other in others])


def wall_oblongs(net):
    """The walls as oblongs."""
    return [(x, y, u - x, v - y) for (x, y), (u, v) in lines(net)]


def thing_oblongs(things):
    """The cells of these things as oblongs."""
    return [thing[1:] for thing in things]


def hindrances(net, openings):
    """The walls and the places of doors as oblongs."""
    return wall_oblongs(net) + [places(net, opening) for opening in openings if opening[1] == DOOR]


def room_of(net, thing):
    """The number of the room of which all cells of a thing are, no wall going between them, or None."""
    name, x, y, w, h = thing
    # Where no wall goes through an oblong all of it is where its first cell is.
    return cell_at(net, x, y) if is_clear((x, y, w, h), wall_oblongs(net)) else None


def first_misfit(net, openings, things):
    """The name of the first one of these things, by names, that doesn't fit, or None."""
    homes = side_homes(net)
    standing = hindrances(net, openings)
    for thing in things:
        name, x, y, w, h = thing
        others = thing_oblongs([other for other in things if other[0] != name])
        if not is_clear((x, y, w, h), standing + others) or home_at(net, homes, x, y) is None:
            return name
    return None
