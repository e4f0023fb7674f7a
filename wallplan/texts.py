"""Texts: a plan written as rows of words, and read."""

from wallplan.errors import NoText
from wallplan.openings import KINDS
from wallplan.plans import is_plan
from wallplan.words import values_of

# What stands behind a row's first word, by the keys of the words' readers.
FORMS = {"corner": "nnn", "wall": "nn", "hold": "wannnn", "door": "wnnnnn", "window": "wnnnnn", "thing": "wnnnn"}

# Where in a plan's parts, corners first, a row belongs.
PARTS = {"corner": 0, "wall": 1, "hold": 2, "door": 3, "window": 3, "thing": 4}


def opening_row(opening):
    """The words of an opening's row."""
    name, kind, (a, b), end, at, width = opening
    return (kind, name, a, b, end, at, width)


def plan_rows(plan):
    """The words of all rows of a plan, in its order."""
    (corners, walls), holds, openings, things = plan
    rows = [("corner",) + corner for corner in corners] + [("wall",) + wall for wall in walls]
    rows = rows + [("hold",) + hold for hold in holds] + [opening_row(opening) for opening in openings]
    return rows + [("thing",) + thing for thing in things]


def written(plan):
    """A plan's text."""
    return "\n".join([" ".join([str(word) for word in row]) for row in plan_rows(plan)])


def opening_of(kind, values):
    """The opening of a row."""
    name, a, b, end, at, width = values
    return (name, kind, (a, b), end, at, width)


def told_row(row):
    """The number of the part to which a row belongs, and what it tells, made as in a plan; or NoText."""
    words = row.split(" ")
    kind = words[0]
    values = values_of(FORMS[kind], words[1:]) if kind in FORMS else None
    if values is None:
        raise NoText("there is no such row")
    return (PARTS[kind], opening_of(kind, values) if kind in KINDS else values)


def told_plan(rows):
    """What rows tell, in the form of a plan, though it may be none; or NoText."""
    parts = [[], [], [], [], []]
    for row in rows:
        place, value = told_row(row)
        parts[place].append(value)
    corners, walls, holds, openings, things = [tuple(part) for part in parts]
    return ((corners, walls), holds, openings, things)


def read(text):
    """The plan of which this is the text, or NoText, of anything."""
    if not isinstance(text, str):
        raise NoText("this is no text")
    plan = told_plan(text.split("\n") if text else [])
    # A plan has one text, so that its rows are in their order is seen by writing it.
    if not is_plan(plan) or written(plan) != text:
        raise NoText("this is no plan's text")
    return plan
