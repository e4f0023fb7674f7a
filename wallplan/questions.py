"""Questions as a desk is asked them: words, what stands behind these, and the answers."""

from wallplan.changes import changed
from wallplan.deeds import ROW_END
from wallplan.fits import fit
from wallplan.rooms import cell_at, rooms
from wallplan.texts import written
from wallplan.ways import depths, ways

NO_ROOM = "no room"
NONE = "none"

# What stands behind a question's word, by the keys of the words' readers.
QUESTION_FORMS = {
    "show": "", "rooms": "", "cell": "nn", "room": "n", "fit": "nss", "depths": "s", "out": "ns",
}


def in_a_row(things):
    """These things, parted by blanks."""
    return " ".join([str(thing) for thing in things])


def has_room(plan, room):
    """Whether a plan has a room of this number."""
    return 0 <= room < len(rooms(plan[0]))


def tell_show(plan, values):
    """The plan's text in a row."""
    return written(plan).replace("\n", ROW_END) or "empty"


def tell_rooms(plan, values):
    """The rooms' areas."""
    return in_a_row([area for ring, rims, area in rooms(plan[0])]) or NONE


def tell_cell(plan, values):
    """The room of a cell."""
    x, y = values
    number = cell_at(plan[0], x, y)
    return "outside" if number is None else str(number)


def tell_room(plan, values):
    """A room's area and its ring's corners."""
    if not has_room(plan, values[0]):
        return NO_ROOM
    ring, rims, area = rooms(plan[0])[values[0]]
    return in_a_row((area,) + ring)


def tell_fit(plan, values):
    """Where a thing fits in a room."""
    room, w, h = values
    if not has_room(plan, room):
        return NO_ROOM
    spot = fit(plan, room, w, h)
    return "nowhere" if spot is None else in_a_row(spot)


def tell_depths(plan, values):
    """The rooms' depths."""
    return in_a_row(["-" if depth is None else depth for depth in depths(plan, values[0])]) or NONE


def tell_out(plan, values):
    """A way out of a room."""
    room, width = values
    if not has_room(plan, room):
        return NO_ROOM
    way = ways(plan, width)[room]
    return "no way" if way is None else in_a_row(way)


def tell_changes(before, plan):
    """What is changed from the plan before, where there is one, to this one."""
    if before is None:
        return NONE
    pairs, holds, openings, things = changed(before, plan)
    return ", ".join([in_a_row(pair) for pair in pairs] + list(holds + openings + things)) or NONE


QUESTIONS = {
    "show": tell_show, "rooms": tell_rooms, "cell": tell_cell, "room": tell_room, "fit": tell_fit,
    "depths": tell_depths, "out": tell_out,
}
