"""Walls moved: runs, and what stands in their way."""

from wallplan.errors import NoAxis, NoCorner, NoMove
from wallplan.nets import has_corner, is_spot, overlap, spots
from wallplan.rings import reached

AXES = ("x", "y")


def look_corner_and_axis(net, c, axis):
    """None, or NoCorner, NoAxis, of anything handed in for both."""
    if not has_corner(net, c):
        raise NoCorner("there is no such corner")
    if axis not in AXES:
        raise NoAxis("an axis is x or y")


def walls_across(net, axis):
    """The walls that go across an axis: upright ones by "x", level ones by "y"."""
    at = spots(net)
    place = AXES.index(axis)
    return [(a, b) for a, b in net[1] if at[a][place] == at[b][place]]


def run(net, c, axis):
    """The run of a corner along an axis; NoCorner, NoAxis."""
    look_corner_and_axis(net, c, axis)
    return reached(walls_across(net, axis), c)


def shifted(spot, axis, d):
    """A spot moved by d along an axis, though it may be none there."""
    x, y = spot
    return (x + d, y) if axis == "x" else (x, y + d)


def strip_of(own, axis, d):
    """The strip over which a run of these spots goes when it is moved by d, as an oblong."""
    passed = own + [shifted(spot, axis, d) for spot in own]
    xs = [x for x, y in passed]
    ys = [y for x, y in passed]
    return ((min(xs), min(ys)), (max(xs), max(ys)))


def strips(net, group, axis, d):
    """The strips of all runs of a group."""
    at = spots(net)
    runs = sorted({run(net, c, axis) for c in group})
    return [strip_of([at[c] for c in numbers], axis, d) for numbers in runs]


def hindrances(net, group, axis):
    """What may not be met, as oblongs: the corners that aren't the group's, and walls across the axis of these."""
    at = spots(net)
    others = [(at[c], at[c]) for c in at if c not in group]
    # Both ends of a wall across the axis are of one run, so of one group.
    return others + [(at[a], at[b]) for a, b in walls_across(net, axis) if a not in group]


def moved(net, group, axis, d):
    """The net with a group, some runs' corners, moved by d along an axis all at once; NoMove."""
    at = spots(net)
    new = {c: shifted(at[c], axis, d) if c in group else at[c] for c in at}
    if not all([is_spot(new[c]) for c in new]):
        raise NoMove("a corner would come to no spot")
    standing = hindrances(net, group, axis)
    for strip in strips(net, group, axis, d):
        if any([overlap(strip, thing) is not None for thing in standing]):
            raise NoMove("something stands in the way")
    return (tuple([(c, new[c][0], new[c][1]) for c in new]), net[1])


def move(net, c, axis, d):
    """The net with the run of a corner along an axis moved by d; NoCorner, NoAxis, NoMove."""
    return moved(net, run(net, c, axis), axis, d)
