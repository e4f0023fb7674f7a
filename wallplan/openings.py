"""Openings: doors and windows, which stand on walls and ride on them."""

from wallplan.errors import NoOpening
from wallplan.holds import is_name
from wallplan.nets import GREATEST_PLACE, is_number, is_row, is_wall, is_whole, overlap, spots

DOOR = "door"
KINDS = ("door", "window")


def is_made(net, thing):
    """Whether it, anything, is made as an opening of the net, whether or not it stands."""
    if not is_row(thing, 6):
        return False
    name, kind, wall, end, at, width = thing
    if not is_name(name) or kind not in KINDS or not is_wall(wall) or wall not in net[1]:
        return False
    if not is_number(end) or end not in wall:
        return False
    return is_whole(at, 0, GREATEST_PLACE) and is_whole(width, 1, GREATEST_PLACE)


def distance(one, other):
    """How far two spots in a line are from one another."""
    return abs(other[0] - one[0]) + abs(other[1] - one[1])


def reach(net, opening):
    """From where to where an opening goes, measured from its wall's first end: below 0 or too far where it falls."""
    name, kind, (a, b), end, at, width = opening
    if end == a:
        return (at, at + width)
    known = spots(net)
    far = distance(known[a], known[b]) - at
    return (far - width, far)


def stretch(net, opening):
    """The spots (x, y, u, v) between which an opening that ends within its wall lies, the lesser one first."""
    known = spots(net)
    a, b = opening[2]
    x, y = known[a]
    low, high = reach(net, opening)
    if known[b][0] == x:
        return (x, y + low, x, y + high)
    return (x + low, y, x + high, y)


def ends_within(net, opening):
    """Whether an opening ends at its wall's other end at the latest."""
    name, kind, (a, b), end, at, width = opening
    known = spots(net)
    return at + width <= distance(known[a], known[b])


def are_clear(net, opening, other):
    """Whether two openings are on two walls, or have no more than an end in common."""
    if opening[2] != other[2]:
        return True
    low, high = reach(net, opening)
    least, most = reach(net, other)
    return high <= least or most <= low


def stands(net, openings, opening):
    """Whether an opening among these stands."""
    others = [other for other in openings if other[0] != opening[0]]
    return ends_within(net, opening) and all([are_clear(net, opening, other) for other in others])


def first_fallen(net, openings):
    """The name of the first one of these openings, by names, that doesn't stand, or None."""
    for opening in openings:
        if not stands(net, openings, opening):
            return opening[0]
    return None


def pieces(net, wall, new):
    """The walls of the new net that lie on a wall of the old one that isn't in it: none where that was taken."""
    known = spots(net)
    line = (known[wall[0]], known[wall[1]])
    at = spots(new)
    return [(a, b) for a, b in new[1] if overlap(line, (at[a], at[b])) == (at[a], at[b])]


def lies_on(net, opening, new, piece):
    """Whether an opening of a wall that is cut lies on this piece of it."""
    start = spots(net)[opening[2][0]]
    known = spots(new)
    low, high = reach(net, opening)
    return distance(start, known[piece[0]]) <= low and high <= distance(start, known[piece[1]])


def on_piece(net, opening, new, piece):
    """An opening of a wall that is cut, as it is on the piece on which it lies."""
    name, kind, (a, b), end, at, width = opening
    # On the side of the old end the piece ends with this one itself, or with the corner where it was cut.
    near = piece[0] if end == a else piece[1]
    return (name, kind, piece, near, at - distance(spots(net)[end], spots(new)[near]), width)


def ridden(net, openings, new):
    """What these openings are in a net that came of the first one by one deed, or NoOpening."""
    kept = []
    lost = []
    for opening in openings:
        if opening[2] in new[1]:
            kept.append(opening)
        else:
            parted = pieces(net, opening[2], new)
            whole = [on_piece(net, opening, new, piece) for piece in parted if lies_on(net, opening, new, piece)]
            kept.extend(whole)
            if parted and not whole:
                lost.append(opening[0])
    fallen = first_fallen(new, kept)
    if fallen is not None:
        lost.append(fallen)
    if lost:
        raise NoOpening(min(lost))
    return tuple(kept)
