"""What is changed from a plan to another one."""

from wallplan.nets import spots
from wallplan.rooms import rooms, side_homes
from wallplan.ways import OUTSIDE, place_beside


def row_places(net, homes, y):
    """The places along the cells of row y, from west to east: tuples (x, place), each from its x on."""
    at = spots(net)
    # A level wall's ends have the same y, so it passes no row.
    passed = [(a, b) for a, b in net[1] if at[a][1] <= y < at[b][1]]
    return sorted([(at[a][0], place_beside(homes, (b, a))) for a, b in passed])


def place_at(row, x):
    """The place at x in a row of places."""
    begun = [place for start, place in row if start <= x]
    return begun[-1] if begun else OUTSIDE


def common(net, other):
    """The rooms of two nets that have cells in common, rising: tuples (i, j, cells), outside being -1."""
    homes = side_homes(net)
    other_homes = side_homes(other)
    ys = sorted({corner[2] for corner in net[0] + other[0]})
    cells = {}
    # Between two neighbouring ys of corners all rows are alike, so they are reckoned as one.
    for y, v in zip(ys, ys[1:]):
        row = row_places(net, homes, y)
        other_row = row_places(other, other_homes, y)
        xs = sorted({start for start, place in row + other_row})
        for x, u in zip(xs, xs[1:]):
            pair = (place_at(row, x), place_at(other_row, x))
            cells[pair] = cells.get(pair, 0) + (u - x) * (v - y)
    return tuple([pair + (cells[pair],) for pair in sorted(cells) if pair != (OUTSIDE, OUTSIDE)])


def place_areas(net):
    """The area of each place, that of outside being 0."""
    areas = {number: room[2] for number, room in enumerate(rooms(net))}
    areas[OUTSIDE] = 0
    return areas


def changed_rooms(net, other):
    """The rooms that have cells in common, but those that have all of them, rising: tuples (i, j, old, new)."""
    old = place_areas(net)
    new = place_areas(other)
    shared = common(net, other)
    return tuple([(i, j, old[i], new[j]) for i, j, cells in shared if not old[i] == cells == new[j]])


def changed_names(rows, others):
    """The names of the rows that only one of both has, or that are unlike in both, rising."""
    unlike = [row for row in rows if row not in others] + [row for row in others if row not in rows]
    return tuple(sorted({row[0] for row in unlike}))


def changed(plan, other):
    """What is changed from a plan to another one: (rooms, holds, openings, things)."""
    names = [changed_names(rows, others) for rows, others in zip(plan[1:], other[1:])]
    return (changed_rooms(plan[0], other[0]),) + tuple(names)
