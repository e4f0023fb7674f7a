"""Held sizes: holds, and the groups of runs that tight ones tie."""

from wallplan.errors import Held
from wallplan.moves import AXES, look_corner_and_axis, moved, walls_across
from wallplan.nets import GREATEST_PLACE, has_corner, is_row, is_whole, spots
from wallplan.rings import reached

LETTERS = "abcdefghijklmnopqrstuvwxyz"
LONGEST_NAME = 8


def is_name(thing):
    """Whether it is a name: a text of one to eight small letters."""
    if not isinstance(thing, str) or not 1 <= len(thing) <= LONGEST_NAME:
        return False
    return all([sign in LETTERS for sign in thing])


def is_hold(net, thing):
    """Whether it, anything, is made as a hold of the net, whether or not it holds."""
    if not is_row(thing, 6):
        return False
    name, axis, c, d, least, most = thing
    if not is_name(name) or axis not in AXES or not has_corner(net, c) or not has_corner(net, d):
        return False
    if not all([is_whole(size, -GREATEST_PLACE, GREATEST_PLACE) for size in (least, most)]):
        return False
    return least <= most


def does_hold(net, hold):
    """Whether the size that a hold holds is from its least to its most one."""
    name, axis, c, d, least, most = hold
    at = spots(net)
    place = AXES.index(axis)
    return least <= at[d][place] - at[c][place] <= most


def ties(holds, axis):
    """The two corners of each tight hold of an axis."""
    return [(c, d) for name, own, c, d, least, most in holds if own == axis and least == most]


def group(net, holds, c, axis):
    """The group of a corner along an axis; NoCorner, NoAxis."""
    look_corner_and_axis(net, c, axis)
    return reached(walls_across(net, axis) + ties(holds, axis), c)


def move_group(net, holds, c, axis, d):
    """The net with the group of a corner along an axis moved by d; NoCorner, NoAxis, NoMove, Held."""
    new = moved(net, group(net, holds, c, axis), axis, d)
    for hold in holds:
        if not does_hold(new, hold):
            raise Held(hold[0])
    return new
