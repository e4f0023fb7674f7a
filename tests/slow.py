"""Slow plain ways, step by step and cell by cell, to find out what is true of plans; and plans to test with."""

import functools
import random
import re

from tests import samples
from tests.samples import net_of
from wallplan.errors import Held, NoName, NoOpening, NoThing, PlanError, TooMany
from wallplan.nets import is_net
from wallplan.rooms import rooms
from wallplan.walls import put

# Two rooms side by side: corners 0 (0, 0), 1 (0, 8), 2 (5, 0), 3 (5, 8), 4 (12, 0), 5 (12, 8).
TWO = net_of(
    [(0, 0, 5, 0), (5, 0, 12, 0), (0, 8, 5, 8), (5, 8, 12, 8), (0, 0, 0, 8), (5, 0, 5, 8), (12, 0, 12, 8)]
)

HOUSE = (
    TWO,
    (("high", "y", 0, 1, 8, 8), ("mid", "x", 0, 2, 3, 7)),
    (("front", "door", (0, 2), 0, 1, 2), ("inner", "door", (2, 3), 2, 3, 2), ("pane", "window", (4, 5), 5, 1, 3)),
    (("bed", 7, 0, 4, 3), ("desk", 0, 5, 3, 2)),
)

LETTERS = "abcdefghijklmnopqrstuvwxyz"


def names(many):
    """So many unlike names, rising."""
    return sorted(LETTERS[k // 26] + LETTERS[k % 26] for k in range(many))


def length(net, wall):
    at = spot_of(net)
    (x, y), (u, v) = at[wall[0]], at[wall[1]]
    return u - x + v - y


def spot_of(net):
    return {c: (x, y) for c, x, y in net[0]}


def steps(net, opening):
    """The steps of a wall that an opening takes, step k being that from k to k + 1 as one goes from the first end."""
    _, _, wall, end, at, width = opening
    own = range(at, at + width)
    return set(own) if end == wall[0] else {length(net, wall) - 1 - k for k in own}


def fallen(net, openings):
    """The names of all openings that don't stand."""
    found = []
    for one in openings:
        own = steps(net, one)
        others = [steps(net, other) for other in openings if other[0] != one[0] and other[2] == one[2]]
        if not own <= set(range(length(net, one[2]))) or any(own & other for other in others):
            found.append(one[0])
    return found


def cells(x, y, w, h):
    return {(k, j) for k in range(x, x + w) for j in range(y, y + h)}


def place_cells(net, door):
    """The cells ahead of a door on both sides, as far as it is wide."""
    _, _, (a, b), _, _, width = door
    (x, y), (u, _) = spot_of(net)[a], spot_of(net)[b]
    found = set()
    for k in steps(net, door):
        for deep in range(-width, width):
            found.add((x + deep, y + k) if x == u else (x + k, y + deep))
    return {(k, j) for k, j in found if k >= 0 and j >= 0}


@functools.lru_cache(maxsize=None)
def room_map(net):
    """Of each cell within walls the number of its room, by going from cell to cell."""
    places = samples.flooded(net)
    found = {}
    for number, (ring, _, _) in enumerate(rooms(net)):
        first = samples.cell_left_of(net, samples.turns(ring)[0])
        for place in places:
            if first in place:
                found.update({cell: number for cell in place})
    return found


@functools.lru_cache(maxsize=None)
def barred(net):
    return frozenset(samples.bars(net))


def room_of(net, thing):
    """The room of all cells of a thing, where no wall parts two neighbouring ones, or None."""
    own = cells(*thing[1:])
    numbers = {room_map(net).get(cell) for cell in own}
    for one, other in barred(net):
        if one in own and other in own:
            return None
    return numbers.pop() if len(numbers) == 1 else None


def misfits(net, openings, things):
    """The names of all things that don't fit."""
    taken = set()
    for opening in openings:
        if opening[1] == "door":
            taken |= place_cells(net, opening)
    found = []
    for thing in things:
        own = cells(*thing[1:])
        others = [cells(*other[1:]) for other in things if other[0] != thing[0]]
        if room_of(net, thing) is None or own & taken or any(own & other for other in others):
            found.append(thing[0])
    return found


def loose(net, holds):
    """The names of all holds that don't hold."""
    at = spot_of(net)
    return [
        name for name, axis, c, d, least, most in holds
        if not least <= at[d]["xy".index(axis)] - at[c]["xy".index(axis)] <= most
    ]


def ridden_slowly(net, openings, new):
    """What [22] tells, step by step: a tuple, or the name of the first one that is cut or doesn't stand."""
    at, later = spot_of(net), spot_of(new)
    kept, lost = [], []
    for opening in openings:
        name, kind, wall, end, far, width = opening
        if wall in new[1]:
            kept.append(opening)
            continue
        x, y = at[wall[0]]
        level = at[wall[1]][0] > x
        own = {(x + k * level, y + k * (not level)) for step in steps(net, opening) for k in (step, step + 1)}
        lines = {(a, b): samples.spots_on((*later[a], *later[b])) for a, b in new[1]}
        whole = [piece for piece in new[1] if own <= lines[piece]]
        if whole:
            if end not in whole[0]:
                near, = [c for c in whole[0] if c not in wall]
                far -= abs(at[end][0] - later[near][0]) + abs(at[end][1] - later[near][1])
                end = near
            kept.append((name, kind, whole[0], end, far, width))
        elif any(len(own & line) > 1 for line in lines.values()):
            lost.append(name)
    lost += fallen(new, kept)
    return min(lost) if lost else tuple(kept)


def judged(net, holds, openings, things):
    """The plan of these, or the refusal's class and the name of the first one that doesn't hold, stand or fit."""
    if loose(net, holds):
        return Held, min(loose(net, holds))
    if fallen(net, openings):
        return NoOpening, min(fallen(net, openings))
    if misfits(net, openings, things):
        return NoThing, min(misfits(net, openings, things))
    return net, holds, openings, things


def behind(plan, make):
    """What becomes of a plan by a deed that makes another net of its own: a plan, or a refusal's class and name."""
    net, holds, openings, things = plan
    try:
        new = make(net)
    except Held as held:
        return Held, held.name
    except PlanError as refusal:
        return type(refusal), None
    known = spot_of(new)
    holds = tuple(hold for hold in holds if hold[2] in known and hold[3] in known)
    openings = ridden_slowly(net, openings, new)
    if isinstance(openings, str):
        return NoOpening, openings
    return judged(new, holds, openings, things)


MOST_ROWS = (None, 30, 40, 30)


def is_whole(thing, least, most):
    return type(thing) is int and least <= thing <= most


def is_name(thing):
    return type(thing) is str and re.fullmatch("[a-z]{1,8}", thing) is not None


def is_hold_row(net, row):
    name, axis, c, d, least, most = row
    ends = all(type(end) is int and end in spot_of(net) for end in (c, d))
    sizes = all(is_whole(size, -10 ** 6, 10 ** 6) for size in (least, most))
    return is_name(name) and type(axis) is str and axis in ("x", "y") and ends and sizes and least <= most


def is_opening_row(net, row):
    name, kind, wall, end, at, width = row
    if type(wall) is not tuple or not all(type(c) is int for c in wall) or wall not in net[1]:
        return False
    known = is_name(name) and type(kind) is str and kind in ("door", "window") and type(end) is int and end in wall
    return known and is_whole(at, 0, 10 ** 6) and is_whole(width, 1, 10 ** 6)


def is_thing_row(row):
    name, x, y, w, h = row
    return is_name(name) and all(is_whole(k, 0, 10 ** 6) for k in (x, y)) and all(is_whole(k, 1, 10 ** 6) for k in (w,
                                                                                                                    h))


def are_rows(thing, length, most, test):
    if type(thing) is not tuple or len(thing) > most:
        return False
    if not all(type(row) is tuple and len(row) == length and test(row) for row in thing):
        return False
    told = [row[0] for row in thing]
    return told == sorted(set(told))


def is_plan_slowly(thing):
    """Whether it is a plan, kinds and all (of small numbers, for what is in it)."""
    if type(thing) is not tuple or len(thing) != 4 or not is_net(thing[0]):
        return False
    net, holds, openings, things = thing
    if not are_rows(holds, 6, 30, lambda row: is_hold_row(net, row)):
        return False
    if not are_rows(openings, 6, 40, lambda row: is_opening_row(net, row)) or not are_rows(things, 5, 30, is_thing_row):
        return False
    return judged(net, holds, openings, things) == thing


def with_row(plan, place, row):
    """What becomes of a plan where a made hold (1), opening (2) or thing (3) is put."""
    rows = {own[0]: own for own in plan[place]}
    rows[row[0]] = row
    if len(rows) > MOST_ROWS[place]:
        return TooMany, None
    return judged(*plan[:place], tuple(rows[name] for name in sorted(rows)), *plan[place + 1:])


def without_row(plan, place, name):
    """What becomes of a plan where a hold, opening or thing is taken."""
    kept = tuple(row for row in plan[place] if row[0] != name)
    return (NoName, None) if kept == plan[place] else (*plan[:place], kept, *plan[place + 1:])


def chance_opening(chance, net, name):
    """A made opening of the net, by chance; it may well not stand."""
    wall = chance.choice(net[1])
    long = length(net, wall)
    width = chance.choice([1, 1, 2, 3, long])
    return name, chance.choice(["door", "window"]), wall, chance.choice(wall), chance.randrange(long + 1), width


def chance_thing(chance, net, name):
    """A thing somewhere in reach of the net, by chance; it may well not fit."""
    wide, high = samples.reach(net)
    return name, chance.randrange(wide + 1), chance.randrange(high + 1), chance.randint(1, 4), chance.randint(1, 4)


def chance_hold(chance, net, name):
    """A made hold of the net, by chance, sometimes tight; it may well not hold."""
    axis = chance.choice("xy")
    c, d = chance.choice(net[0]), chance.choice(net[0])
    size = d["xy".index(axis) + 1] - c["xy".index(axis) + 1]
    if chance.randrange(4) == 0:
        return name, axis, c[0], d[0], size, size
    return name, axis, c[0], d[0], size - chance.randrange(-1, 6), size + chance.randrange(6)


def chance_plan(seed, net):
    """A plan of this net, by chance, but the same for the same seed."""
    chance = random.Random(seed)
    holds, openings, things = (), (), ()
    if net[1]:
        for name in chance.sample(names(50), 10):
            more = holds + (chance_hold(chance, net, name),)
            holds = holds if more[-1][4] > more[-1][5] or loose(net, more) else more
        for name in chance.sample(names(50), 14):
            more = openings + (chance_opening(chance, net, name),)
            openings = openings if fallen(net, more) else more
        for name in chance.sample(names(50), 20):
            more = things + (chance_thing(chance, net, name),)
            things = things if misfits(net, openings, more) else more
    return net, tuple(sorted(holds)), tuple(sorted(openings)), tuple(sorted(things))


def grown_net(seed, many=9, wide=12):
    """A net of lines put one behind another by chance, so that there are rooms of odd forms."""
    chance = random.Random(seed)
    net = net_of(samples.box(0, 0, wide, wide)) if seed % 3 else samples.EMPTY
    for _ in range(many):
        k, low, high = chance.randrange(wide + 1), chance.randrange(wide + 1), chance.randrange(wide + 1)
        ends = ((k, low), (k, high)) if chance.randrange(2) else ((low, k), (high, k))
        try:
            net = put(net, *ends)
        except PlanError:
            pass
    return net


@functools.lru_cache(maxsize=None)
def chance_plans():
    """Some hundred plans of small nets, with holds, openings and things."""
    nets = list(samples.NAMED.values()) + samples.chance_nets()[::3] + [TWO] * 10
    nets += [grown_net(seed) for seed in range(50)]
    return tuple(chance_plan(seed, net) for seed, net in enumerate(nets))


def leads_slowly(plan):
    """Of each door its name and the rooms of the cells on both sides of its first step, -1 for outside."""
    net, _, openings, _ = plan
    found = []
    for opening in openings:
        if opening[1] == "door":
            a, b = opening[2]
            (x, y), (u, _) = spot_of(net)[a], spot_of(net)[b]
            k = min(steps(net, opening))
            beside = ((x, y + k), (x - 1, y + k)) if x == u else ((x + k, y), (x + k, y - 1))
            found.append((opening[0], *sorted(room_map(net).get(cell, -1) for cell in beside)))
    return tuple(found)


def depths_slowly(plan, w):
    """The depths, by putting down lesser ones again and again until there are none."""
    widths = {opening[0]: opening[5] for opening in plan[2]}
    doors = [lead for lead in leads_slowly(plan) if widths[lead[0]] >= w]
    known = {room: 10 ** 9 for room in range(len(rooms(plan[0])))}
    known[-1] = 0
    for _ in known:
        for _, one, other in doors:
            known[one] = min(known[one], known[other] + 1)
            known[other] = min(known[other], known[one] + 1)
    return tuple(known[room] if known[room] < 10 ** 9 else None for room in range(len(known) - 1))


def with_doors(seed, net, share=70):
    """A plan of this net with doors on many of its walls, and some windows, by chance."""
    chance = random.Random(seed)
    openings = []
    for name, wall in zip(chance.sample(names(90), len(net[1])), net[1]):
        if chance.randrange(100) < share and len(openings) < 40:
            width = chance.randint(1, min(3, length(net, wall)))
            kind = "window" if chance.randrange(6) == 0 else "door"
            at = chance.randint(0, length(net, wall) - width)
            openings.append((name, kind, wall, chance.choice(wall), at, width))
    return net, (), tuple(sorted(openings)), ()


@functools.lru_cache(maxsize=None)
def door_plans():
    """Some hundred plans with many doors."""
    nets = list(samples.NAMED.values()) + samples.chance_nets()[::2] + [grown_net(seed) for seed in range(60)]
    return tuple(with_doors(seed, net, (30, 50, 70, 90)[seed % 4]) for seed, net in enumerate(nets))


def common_slowly(net, other):
    """What two nets have in common, cell by cell."""
    one, two = room_map(net), room_map(other)
    found = {}
    for cell in set(one) | set(two):
        pair = one.get(cell, -1), two.get(cell, -1)
        found[pair] = found.get(pair, 0) + 1
    return tuple(sorted((*pair, many) for pair, many in found.items()))
