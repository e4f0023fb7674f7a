"""Rooms: what rings shut in, the rims that lie in them, and the cells that they have."""

from wallplan.nets import spots
from wallplan.rings import area_of, ring_sides, rings


def west_side(net, x, y):
    """The side down the nearest upright wall at x or west of it that passes the cells of row y, or None."""
    at = spots(net)
    found = []
    for a, b in net[1]:
        place, low = at[a]
        high = at[b][1]
        # A level wall's ends have the same y, so it passes no row.
        if place <= x and low <= y < high:
            found.append((place, b, a))
    if not found:
        return None
    nearest = max(found)
    return nearest[1:]


def ring_areas(net):
    """Of each ring, rising, its area."""
    return {ring: area_of(net, ring) for ring in rings(net)}


def ring_homes(net, areas):
    """Of each ring the number of the room that it shuts in or lies in, None where it lies outside."""
    at = spots(net)
    owners = {side: ring for ring in areas for side in ring_sides(ring)}
    homes = {}
    rims = []
    for ring in areas:
        if areas[ring] > 0:
            homes[ring] = len(homes)
        else:
            # Nothing of its part lies west of a part's least spot, so the rim passes there.
            rims.append((min([at[c] for c in ring]), ring))
    # Rims go by these spots, from west to east, so what lies west of one is settled ahead of it.
    for (x, y), rim in sorted(rims):
        beside = west_side(net, x - 1, y)
        homes[rim] = None if beside is None else homes[owners[beside]]
    return homes


def side_homes(net):
    """Of each side the number of the room to its left, None where that is outside."""
    homes = ring_homes(net, ring_areas(net))
    return {side: homes[ring] for ring in homes for side in ring_sides(ring)}


def home_at(net, homes, x, y):
    """The number of the room of which the cell (x, y) is, None outside, where each side's home is known."""
    return homes.get(west_side(net, x, y))


def rims_at(areas, homes, number):
    """The rims that lie in the room of this number (outside where it is None), rising."""
    return tuple([ring for ring in areas if areas[ring] <= 0 and homes[ring] == number])


def rooms(net):
    """The rooms of a net, rising by their rings: tuples (ring, rims, area)."""
    areas = ring_areas(net)
    homes = ring_homes(net, areas)
    told = []
    for ring in areas:
        if areas[ring] > 0:
            rims = rims_at(areas, homes, homes[ring])
            told.append((ring, rims, areas[ring] + sum([areas[rim] for rim in rims])))
    return tuple(told)


def outside(net):
    """The rims that lie outside, rising."""
    areas = ring_areas(net)
    return rims_at(areas, ring_homes(net, areas), None)


def cell_at(net, x, y):
    """The number of the room of which the cell (x, y) is, or None where it is outside."""
    return home_at(net, side_homes(net), x, y)
