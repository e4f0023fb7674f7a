"""Nets to test with, and slow plain ways to find out what is true of them."""

import random

EMPTY = ((), ())

# Things of the kinds that may be handed in and of others, none of them a net.
STRANGE = (
    None, True, False, "", "1", "ab", "0\t1\n", -1, 1, 10 ** 30, (), [], [()], ((),), (None,), (True, False),
    [[], []], [(), ()], ((), []), ([], ()), ((), (), ()), ((), None), (None, ()), ("", ""), ("ab", "cd"), (0, 0),
    1.0, 0.5, b"", b"ab", {}, {0: 1}, set(), frozenset(), {1}, object(), range(2), int, len, [[[[[[[]]]]]]],
    (((((((),),),),),),), [({"a": [None]}, b"x")], ({}, {}), (set(), set()), ("", ()), ((), ""), (b"", b""),
)


def net_of(lines, numbers=None):
    """The net of lines (x, y, u, v); corners are numbered by rising spots, or by these numbers in that order."""
    lines = [tuple(sorted([(x, y), (u, v)])) for x, y, u, v in lines]
    found = sorted({spot for line in lines for spot in line})
    number = dict(zip(found, range(len(found)) if numbers is None else numbers))
    corners = tuple(sorted((number[spot], *spot) for spot in found))
    return corners, tuple(sorted((number[one], number[other]) for one, other in lines))


def box(x, y, u, v):
    """The four lines of an oblong."""
    return [(x, y, u, y), (x, v, u, v), (x, y, x, v), (u, y, u, v)]


# One room: corners 0 (0, 0), 1 (0, 3), 2 (4, 0), 3 (4, 3).
SQUARE = net_of(box(0, 0, 4, 3))

# One wall that stands alone.
LONE = net_of([(2, 5, 2, 9)])

# A room, with a wall that ends freely in it and one that ends freely outside, both at its east wall.
FREE = net_of([(0, 0, 6, 0), (0, 4, 6, 4), (0, 0, 0, 4), (6, 0, 6, 2), (6, 2, 6, 4), (3, 2, 6, 2), (6, 2, 8, 2)])

# Four rooms round a crossing of four walls; corners within straight walls on each side.
CROSS = net_of(
    [(0, 0, 2, 0), (2, 0, 5, 0), (0, 3, 2, 3), (2, 3, 5, 3), (0, 7, 2, 7), (2, 7, 5, 7)]
    + [(0, 0, 0, 3), (0, 3, 0, 7), (2, 0, 2, 3), (2, 3, 2, 7), (5, 0, 5, 3), (5, 3, 5, 7)]
)

# A room in a room in a room, and a lone wall in the midst.
NEST = net_of(box(0, 0, 20, 20) + box(2, 3, 18, 17) + box(5, 5, 15, 15) + [(8, 9, 12, 9)])

# Three oblongs side by side in a room, two side by side outside: rims that lie beside other parts' rims.
BESIDE = net_of(
    box(0, 0, 20, 10) + box(1, 1, 4, 9) + box(6, 2, 8, 8) + box(10, 3, 12, 7) + box(22, 2, 24, 8) + box(30, 4, 31, 5)
)

NAMED = {"empty": EMPTY, "square": SQUARE, "lone": LONE, "free": FREE, "cross": CROSS, "nest": NEST, "beside": BESIDE}


def lattice(xs, ys):
    """All lines between neighbouring spots of a lattice."""
    level = [(x, y, u, y) for x, u in zip(xs, xs[1:]) for y in ys]
    upright = [(x, y, x, v) for y, v in zip(ys, ys[1:]) for x in xs]
    return level + upright


def lattice_lines(many, step=1):
    """So many lines, 59 to 104, of a lattice of six times ten spots, those first by which all spots are joined."""
    xs, ys = range(0, 6 * step, step), range(0, 10 * step, step)
    kept = lattice(xs[5:], ys) + [(x, y, u, y) for x, u in zip(xs, xs[1:]) for y in ys]
    return (kept + [line for line in lattice(xs, ys) if line not in kept])[:many]


def lattice_net(many, step=1, numbers=None):
    """The net of so many of these lines, with sixty corners."""
    return net_of(lattice_lines(many, step), numbers)


def chance_net(seed):
    """A small net, by chance, but the same for the same seed."""
    chance = random.Random(seed)
    xs = sorted(chance.sample(range(13), chance.randint(2, 7)))
    ys = sorted(chance.sample(range(13), chance.randint(2, 7)))
    share = chance.choice([30, 50, 70, 90, 100])
    lines = [line for line in lattice(xs, ys) if chance.randrange(100) < share]
    return net_of(lines, chance.sample(range(1000), 60))


def chance_nest(seed):
    """Oblongs in oblongs and beside them, and lone walls, by chance, but the same for the same seed."""
    chance = random.Random(seed)
    lines = []
    areas = [(0, 0, 26, 26)]
    while areas and len(lines) < 52:
        x, y, u, v = areas.pop(chance.randrange(len(areas)))
        if u - x < 3 or v - y < 3:
            continue
        what = chance.randrange(5)
        if what == 0:
            cut = chance.randrange(x + 1, u)
            areas += [(x, y, cut, v), (cut, y, u, v)]
        elif what == 1:
            cut = chance.randrange(y + 1, v)
            areas += [(x, y, u, cut), (x, cut, u, v)]
        elif what == 2 and len(lines) > 12:
            lines.append((x + 1, y + 1, u - 1, y + 1) if chance.randrange(2) else (x + 1, y + 1, x + 1, v - 1))
        else:
            lines += box(x + 1, y + 1, u - 1, v - 1)
            areas.append((x + 1, y + 1, u - 1, v - 1))
    return net_of(lines, chance.sample(range(1000), 60))


def chance_nets():
    """Some of both."""
    return [chance_net(seed) for seed in range(60)] + [chance_nest(seed) for seed in range(40)]


def great_nets():
    """Nets with as much as a net may have."""
    most = 10 ** 6
    return [
        lattice_net(90), lattice_net(90, 100000, range(999, 939, -1)), lattice_net(59, most // 9),
        net_of([(k, 0, k + 1, 0) for k in range(59)]), net_of([(k, 0, k, most) for k in range(30)]),
        net_of([line for k in range(15) for line in box(k, k, most - k, most - k)], range(940, 1000)),
        net_of([line for k in range(15) for line in box(9 * k, most - 5, 9 * k + 4, most)]),
    ]


def lines_of(net):
    """The walls as lines (x, y, u, v)."""
    at = {c: (x, y) for c, x, y in net[0]}
    return [(*at[a], *at[b]) for a, b in net[1]]


def reach(net):
    """One more than the greatest x and the greatest y of a net."""
    return max([x for _, x, _ in net[0]], default=0) + 1, max([y for _, _, y in net[0]], default=0) + 1


def bars(net):
    """The pairs of neighbouring cells that a wall lies between."""
    found = set()
    for x, y, u, v in lines_of(net):
        found |= {((k, y - 1), (k, y)) for k in range(x, u)}
        found |= {((x - 1, k), (x, k)) for k in range(y, v)}
    return found


def flooded(net):
    """The places that walls part, each as a set of cells, found by going from cell to cell; outside first."""
    wide, high = reach(net)
    barred = bars(net)
    left = {(x, y) for x in range(-1, wide + 1) for y in range(-1, high + 1)}
    places = []
    start = (-1, -1)
    while left:
        place, waiting = {start}, [start]
        while waiting:
            x, y = waiting.pop()
            for cell in ((x + 1, y), (x - 1, y), (x, y + 1), (x, y - 1)):
                if cell in left and cell not in place and tuple(sorted([(x, y), cell])) not in barred:
                    place.add(cell)
                    waiting.append(cell)
        places.append(place)
        left -= place
        start = min(left, default=None)
    return places


def turns(ring):
    """The sides of a ring, in their turn."""
    return [(ring[k], ring[(k + 1) % len(ring)]) for k in range(len(ring))]


def cell_left_of(net, side):
    """The cell to the left of a side's first step."""
    at = {c: (x, y) for c, x, y in net[0]}
    (x, y), (u, v) = at[side[0]], at[side[1]]
    if y == v:
        return (x, y) if x < u else (x - 1, y - 1)
    return (x - 1, y) if y < v else (x, y - 1)


def changed(thing, path, new):
    """The same tuples with another thing at one place."""
    if not path:
        return new
    at = path[0]
    return thing[:at] + (changed(thing[at], path[1:], new),) + thing[at + 1:]


def paths(thing):
    """The places of all things within tuples, the whole too."""
    found = [()]
    if isinstance(thing, tuple):
        for at, within in enumerate(thing):
            found += [(at, *path) for path in paths(within)]
    return found


def at_path(thing, path):
    for at in path:
        thing = thing[at]
    return thing


def listed(thing):
    return [listed(within) for within in thing] if isinstance(thing, tuple) else thing


def same(one, other):
    """Whether two things are alike, kinds and all."""
    if type(one) is not type(other):
        return False
    if isinstance(one, (tuple, list)):
        return len(one) == len(other) and all(same(a, b) for a, b in zip(one, other))
    return one == other


def is_plain(thing):
    """Whether it is made of tuples and whole numbers themselves."""
    return all(is_plain(within) for within in thing) if type(thing) is tuple else type(thing) is int


def spots_on(line):
    """All spots of a line (x, y, u, v)."""
    x, y, u, v = line
    return {(k, j) for k in range(x, u + 1) for j in range(y, v + 1)}


def turned(net):
    """The net with x and y exchanged."""
    return tuple((c, y, x) for c, x, y in net[0]), net[1]
