"""Where a thing fits."""

from wallplan.nets import spots
from wallplan.rooms import home_at, rooms, side_homes
from wallplan.things import hindrances, is_clear, thing_oblongs


def bounds(net, room):
    """The least and the greatest x and y of a room: (x, y, u, v)."""
    at = spots(net)
    own = [at[c] for c in rooms(net)[room][0]]
    xs = [x for x, y in own]
    ys = [y for x, y in own]
    return (min(xs), min(ys), max(xs), max(ys))


def fit(plan, room, w, h):
    """The spot with the least y, then the least x, at which a thing of w times h fits in a room, or None."""
    net, holds, openings, things = plan
    homes = side_homes(net)
    standing = hindrances(net, openings) + thing_oblongs(things)
    west, south, east, north = bounds(net, room)
    # From the least spot it can go neither west nor south, so something ends there on each of these sides.
    xs = sorted({x + wide for x, y, wide, high in standing if west <= x + wide <= east - w})
    ys = sorted({y + high for x, y, wide, high in standing if south <= y + high <= north - h})
    for y in ys:
        level = [oblong for oblong in standing if not is_clear((west, y, east - west, h), [oblong])]
        for x in xs:
            if is_clear((x, y, w, h), level) and home_at(net, homes, x, y) == room:
                return (x, y)
    return None
