"""Deeds as a desk is told them: words and what stands behind these."""

from wallplan.errors import NoText
from wallplan.plans import group_moved, hold_put, hold_taken, opening_put, opening_taken, thing_put, thing_taken
from wallplan.plans import wall_put, wall_taken
from wallplan.texts import opening_of, read

# What stands in the place of a line end where a plan's text is one row.
ROW_END = " ; "

# What stands behind a deed's word, by the keys of the words' readers; behind load stands a text.
DEED_FORMS = {
    "wall": "nnnn", "unwall": "nn", "move": "nan", "hold": "wannnn", "door": "wnnnnn", "window": "wnnnnn",
    "thing": "wnnnn", "unhold": "w", "unopen": "w", "unthing": "w",
}


def do_wall(plan, values):
    """A wall put."""
    x, y, u, v = values
    return wall_put(plan, (x, y), (u, v))


def do_unwall(plan, values):
    """A wall taken."""
    a, b = values
    return wall_taken(plan, a, b)


def do_move(plan, values):
    """A group moved."""
    c, axis, d = values
    return group_moved(plan, c, axis, d)


def do_hold(plan, values):
    """A hold put."""
    return hold_put(plan, values)


def do_door(plan, values):
    """A door put."""
    return opening_put(plan, opening_of("door", values))


def do_window(plan, values):
    """A window put."""
    return opening_put(plan, opening_of("window", values))


def do_thing(plan, values):
    """A thing put."""
    return thing_put(plan, values)


def do_unhold(plan, values):
    """A hold taken."""
    return hold_taken(plan, values[0])


def do_unopen(plan, values):
    """An opening taken."""
    return opening_taken(plan, values[0])


def do_unthing(plan, values):
    """A thing taken."""
    return thing_taken(plan, values[0])


def do_load(plan, values):
    """The plan of a text, told as one row."""
    text = values[0]
    if "\n" in text:
        raise NoText("a row has no line ends")
    return read(text.replace(ROW_END, "\n"))


DEEDS = {
    "wall": do_wall, "unwall": do_unwall, "move": do_move, "hold": do_hold, "door": do_door, "window": do_window,
    "thing": do_thing, "unhold": do_unhold, "unopen": do_unopen, "unthing": do_unthing, "load": do_load,
}
