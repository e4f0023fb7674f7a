"""Words of a row: numbers, names and axes as they are written."""

from wallplan.holds import LETTERS, is_name

FIGURES = "0123456789"
MOST_FIGURES = 7


def number_of(word):
    """The number that a word writes, or None."""
    figures = word[1:] if word.startswith("-") else word
    if not 1 <= len(figures) <= MOST_FIGURES or not all([sign in FIGURES for sign in figures]):
        return None
    # One way to write each number: a nought stands ahead of nothing, and has no sign.
    if figures[0] == "0" and word != "0":
        return None
    return int(word)


def size_of(word):
    """The number from 1 on that a word writes, or None."""
    number = number_of(word)
    return None if number is None or number < 1 else number


def name_of(word):
    """The word where it is a name, or None."""
    return word if is_name(word) else None


def axis_of(word):
    """The word where it may be asked for as an axis, a small letter, or None."""
    return word if len(word) == 1 and word in LETTERS else None


READERS = {"n": number_of, "s": size_of, "w": name_of, "a": axis_of}


def values_of(form, words):
    """What these words write by a form, a text with the key of a reader for each, or None where they don't."""
    if len(words) != len(form):
        return None
    values = []
    for sign, word in zip(form, words):
        reader = READERS[sign]
        values.append(reader(word))
    return None if None in values else tuple(values)
