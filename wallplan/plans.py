"""Plans: nets with their holds, openings and things, and the deeds that make another plan of one."""

from wallplan.errors import Held, NoHold, NoName, NoOpening, NoPlan, NoThing, TooMany
from wallplan.holds import does_hold, is_hold, move_group
from wallplan.nets import do_rise, has_corner, is_net, is_row
from wallplan.openings import first_fallen, is_made, ridden
from wallplan.things import first_misfit, is_thing
from wallplan.walls import put, take

EMPTY = (((), ()), (), (), ())
MOST_HOLDS = 30
MOST_OPENINGS = 40
MOST_THINGS = 30


def are_few(thing, most):
    """Whether it is a tuple of so many things at most."""
    return isinstance(thing, tuple) and len(thing) <= most


def first_loose(net, holds):
    """The name of the first one of these holds, by names, that doesn't hold, or None."""
    for hold in holds:
        if not does_hold(net, hold):
            return hold[0]
    return None


def names_rise(rows):
    """Whether the names of these holds, openings or things rise, none twice."""
    return do_rise([row[0] for row in rows])


def are_holds(net, thing):
    """Whether it is a tuple of holds as a plan has them."""
    if not are_few(thing, MOST_HOLDS) or not all([is_hold(net, hold) for hold in thing]):
        return False
    return names_rise(thing) and first_loose(net, thing) is None


def are_openings(net, thing):
    """Whether it is a tuple of openings as a plan has them."""
    if not are_few(thing, MOST_OPENINGS) or not all([is_made(net, opening) for opening in thing]):
        return False
    return names_rise(thing) and first_fallen(net, thing) is None


def are_things(net, openings, thing):
    """Whether it is a tuple of things as a plan with these openings has them."""
    if not are_few(thing, MOST_THINGS) or not all([is_thing(row) for row in thing]):
        return False
    return names_rise(thing) and first_misfit(net, openings, thing) is None


def is_plan(thing):
    """Whether it, anything, is a plan."""
    if not is_row(thing, 4):
        return False
    net, holds, openings, things = thing
    if not is_net(net) or not are_holds(net, holds) or not are_openings(net, openings):
        return False
    return are_things(net, openings, things)


def look_plan(thing):
    """None where it, anything, is a plan, else NoPlan."""
    if not is_plan(thing):
        raise NoPlan("this is no plan")


def made_plan(net, holds, openings, things):
    """The plan of these, each made as told, or Held, NoOpening, NoThing with the first name of what isn't right."""
    loose = first_loose(net, holds)
    if loose is not None:
        raise Held(loose)
    fallen = first_fallen(net, openings)
    if fallen is not None:
        raise NoOpening(fallen)
    misfit = first_misfit(net, openings, things)
    if misfit is not None:
        raise NoThing(misfit)
    return (net, holds, openings, things)


def wall_put(plan, one, other):
    """The plan with a wall put from a spot to another one; NoWall, TooMany, NoOpening, NoThing."""
    net, holds, openings, things = plan
    new = put(net, one, other)
    return made_plan(new, holds, ridden(net, openings, new), things)


def wall_taken(plan, a, b):
    """The plan without the wall between two corners, and what was on it; NoWall, NoThing."""
    net, holds, openings, things = plan
    new = take(net, a, b)
    kept = tuple([hold for hold in holds if has_corner(new, hold[2]) and has_corner(new, hold[3])])
    return made_plan(new, kept, ridden(net, openings, new), things)


def group_moved(plan, c, axis, d):
    """The plan with a corner's group moved by d; NoCorner, NoAxis, NoMove, Held, NoOpening, NoThing."""
    net, holds, openings, things = plan
    new = move_group(net, holds, c, axis, d)
    return made_plan(new, holds, ridden(net, openings, new), things)


def with_row(rows, row, most):
    """These rows with one put in the place of that by its name, rising by names, or TooMany."""
    new = sorted([own for own in rows if own[0] != row[0]] + [row])
    if len(new) > most:
        raise TooMany("there would be too many of these")
    return tuple(new)


def hold_put(plan, hold):
    """The plan with a hold put; NoHold, TooMany, Held."""
    net, holds, openings, things = plan
    if not is_hold(net, hold):
        raise NoHold(None)
    return made_plan(net, with_row(holds, hold, MOST_HOLDS), openings, things)


def opening_put(plan, opening):
    """The plan with an opening put; NoOpening, TooMany, NoThing."""
    net, holds, openings, things = plan
    if not is_made(net, opening):
        raise NoOpening(None)
    return made_plan(net, holds, with_row(openings, opening, MOST_OPENINGS), things)


def thing_put(plan, thing):
    """The plan with a thing put; NoThing, TooMany."""
    net, holds, openings, things = plan
    if not is_thing(thing):
        raise NoThing(None)
    return made_plan(net, holds, openings, with_row(things, thing, MOST_THINGS))


def without_row(rows, name):
    """These rows without the one by this name, anything, or NoName."""
    kept = tuple([row for row in rows if row[0] != name])
    if len(kept) == len(rows):
        raise NoName("there is nothing by this name")
    return kept


def hold_taken(plan, name):
    """The plan without a hold; NoName."""
    net, holds, openings, things = plan
    return (net, without_row(holds, name), openings, things)


def opening_taken(plan, name):
    """The plan without an opening; NoName."""
    net, holds, openings, things = plan
    return (net, holds, without_row(openings, name), things)


def thing_taken(plan, name):
    """The plan without a thing; NoName."""
    net, holds, openings, things = plan
    return (net, holds, openings, without_row(things, name))
