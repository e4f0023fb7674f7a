"""Texts of plans, written and read [2, 31]."""

import random
import re
import unittest

from tests import samples, slow
from tests.samples import STRANGE, box, net_of, same
from tests.slow import HOUSE, is_plan_slowly, names
from tests.test_plans import FULL
from wallplan.errors import NoText
from wallplan.plans import EMPTY, is_plan
from wallplan.texts import read, written

MOST = 10 ** 6

HOUSE_TEXT = """corner 0 0 0
corner 1 0 8
corner 2 5 0
corner 3 5 8
corner 4 12 0
corner 5 12 8
wall 0 1
wall 0 2
wall 1 3
wall 2 3
wall 2 4
wall 3 5
wall 4 5
hold high y 0 1 8 8
hold mid x 0 2 3 7
door front 0 2 0 1 2
door inner 2 3 2 3 2
window pane 4 5 5 1 3
thing bed 7 0 4 3
thing desk 0 5 3 2"""

NUMBER = "(0|-?[1-9][0-9]*)"
NAME = "([a-z]+)"


def rule(*words):
    return re.compile(" ".join(words))


RULES = (
    (0, rule("corner", NUMBER, NUMBER, NUMBER)), (1, rule("wall", NUMBER, NUMBER)),
    (2, rule("hold", NAME, NAME, NUMBER, NUMBER, NUMBER, NUMBER)),
    (3, rule("(door|window)", NAME, NUMBER, NUMBER, NUMBER, NUMBER, NUMBER)), (4, rule("thing", NAME, *[NUMBER] * 4)),
)


def valued(word):
    return word if word[0].isalpha() else int(word) if len(word) < 20 else 10 ** 20


def read_slowly(text):
    """The plan that a text tells, or None, by plain rules for its rows."""
    parts = [[], [], [], [], []]
    last = 0
    for row in text.split("\n") if text else []:
        found = [(place, form.fullmatch(row)) for place, form in RULES if form.fullmatch(row)]
        if not found or found[0][0] < last:
            return None
        last, match = found[0]
        words = tuple(valued(word) for word in match.groups())
        if last == 3:
            kind, name, a, b, end, at, width = words
            words = name, kind, (a, b), end, at, width
        parts[last].append(words)
    corners, walls, *rest = [tuple(part) for part in parts]
    plan = ((corners, walls), *rest)
    return plan if is_plan_slowly(plan) else None


class WrittenTest(unittest.TestCase):
    def check(self, plan, expected):
        """So it is written, and read again it is the very plan."""
        for _ in range(2):
            self.assertTrue(same(written(plan), expected))
            self.assertTrue(same(read(expected), plan))

    def test_the_plan_without_walls(self):
        self.check(EMPTY, "")

    def test_a_house(self):
        self.check(HOUSE, HOUSE_TEXT)

    def test_numbers_below_0(self):
        plan = (samples.LONE, (("a", "y", 1, 0, -MOST, -4), ("b", "x", 0, 0, -1, 0)), (), ())
        self.check(plan, "corner 0 2 5\ncorner 1 2 9\nwall 0 1\nhold a y 1 0 -1000000 -4\nhold b x 0 0 -1 0")

    def test_the_greatest_numbers(self):
        net = net_of([(0, MOST, MOST, MOST)], (999, 0))
        plan = (net, (("abcdefgh", "x", 999, 0, MOST, MOST),), (("z", "door", (999, 0), 0, MOST - 1, 1),), ())
        self.check(plan, "corner 0 1000000 1000000\ncorner 999 0 1000000\nwall 999 0\n"
                         "hold abcdefgh x 999 0 1000000 1000000\ndoor z 999 0 0 999999 1")

    def test_openings_by_names_whatever_their_kind(self):
        plan = (samples.LONE, (), (("a", "window", (0, 1), 0, 0, 1), ("b", "door", (0, 1), 1, 0, 1),
                                   ("c", "window", (0, 1), 0, 2, 1)), ())
        rows = "corner 0 2 5\ncorner 1 2 9\nwall 0 1\nwindow a 0 1 0 0 1\ndoor b 0 1 1 0 1\nwindow c 0 1 0 2 1"
        self.check(plan, rows)

    def test_things_alone(self):
        plan = (samples.SQUARE, (), (), (("a", 0, 0, 4, 3),))
        self.assertTrue(written(plan).endswith("wall 2 3\nthing a 0 0 4 3"))
        self.check(plan, written(plan))

    def test_many_plans(self):
        for plan in (FULL,) + slow.chance_plans() + slow.door_plans()[::4]:
            self.check(plan, written(plan))
            self.assertRegex(written(plan), r"\A[a-z0-9 \n-]*\Z")
            self.assertEqual(read_slowly(written(plan)), plan)
        for net in samples.great_nets():
            self.check((net, (), (), ()), written((net, (), (), ())))


class ReadTest(unittest.TestCase):
    def no(self, thing):
        for _ in range(2):
            with self.assertRaises(NoText):
                read(thing)

    def told(self, text):
        """The text is read as by plain rules."""
        expected = read_slowly(text)
        if expected is None:
            self.no(text)
        else:
            self.assertTrue(same(read(text), expected))
            self.assertEqual(written(expected), text)
        return expected is not None

    def test_what_is_no_text(self):
        for thing in STRANGE:
            if not same(thing, ""):
                self.no(thing)
        for thing in (EMPTY, HOUSE, [HOUSE_TEXT], (HOUSE_TEXT,), HOUSE_TEXT.encode(), HOUSE_TEXT.split("\n")):
            self.no(thing)

    def test_blanks_and_line_ends_more_or_fewer(self):
        for text in (" ", "\n", "\t", "  ", "\n\n", " \n"):
            self.no(text)
        for place, sign in enumerate(HOUSE_TEXT):
            if sign in " \n":
                self.no(HOUSE_TEXT[:place] + sign + HOUSE_TEXT[place:])
                self.no(HOUSE_TEXT[:place] + HOUSE_TEXT[place + 1:])
                self.no(HOUSE_TEXT[:place] + "\t" + HOUSE_TEXT[place + 1:])
                self.no(HOUSE_TEXT[:place] + (" " if sign == "\n" else "\n") + HOUSE_TEXT[place + 1:])
                self.no(HOUSE_TEXT[:place] + " " + HOUSE_TEXT[place:])
        for text in (HOUSE_TEXT + "\n", "\n" + HOUSE_TEXT, HOUSE_TEXT + " ", " " + HOUSE_TEXT, HOUSE_TEXT + "\n\n",
                     HOUSE_TEXT.replace("\n", " ; "), HOUSE_TEXT.replace("\n", "\r\n"),
                     HOUSE_TEXT.replace("\n", "\x0b")):
            self.no(text)

    def test_a_sign_fewer_more_or_another(self):
        good = 0
        chance = random.Random(18)
        for place in range(len(HOUSE_TEXT)):
            ahead, sign, rest = HOUSE_TEXT[:place], HOUSE_TEXT[place], HOUSE_TEXT[place + 1:]
            good += self.told(ahead + rest)
            for other in chance.sample("abxyz0123456789- \n\t;+._A~", 8):
                good += self.told(ahead + other + sign + rest)
                if other != sign:
                    good += self.told(ahead + other + rest)
        self.assertGreater(good, 20)

    def test_numbers_written_otherwise(self):
        for old, new in (("corner 1 0 8", "corner 01 0 8"), ("corner 1 0 8", "corner 1 00 8"), ("8 8", "8 08"),
                         ("corner 1 0 8", "corner 1 -0 8"), ("corner 1 0 8", "corner 1 0 +8"), ("8 8", "8 8.0"),
                         ("corner 1 0 8", "corner +1 0 8"), ("3 7", "3 7_0"), ("3 7", "-03 7"), ("3 7", "- 7"),
                         ("3 7", "-3- 7"),
                         ("3 7", "--3 7"), ("3 7", "3 0x7"), ("3 7", "3 1e3"), ("3 7", "3 "), ("3 7", "3 None"),
                         ("3 7", "3 1000001"), ("3 7", "3 10000000"), ("3 7", "3 " + "9" * 30), ("3 7", "-1000001 7"),
                         ("3 7", "3 \u0667"), ("3 7", "3 7\u00b2")):
            self.assertEqual(HOUSE_TEXT.count(f" {old}") + HOUSE_TEXT.count(f"\n{old}"), 1, old)
            self.no(HOUSE_TEXT.replace(old, new))
        self.assertEqual(read(HOUSE_TEXT.replace("x 0 2 3 7", "x 0 2 -3 1000000"))[1][1], ("mid", "x", 0, 2, -3, MOST))

    def test_very_long_numbers(self):
        for many in (8, 30, 5000, 100000):
            for figure in "1", "0", "9", "-9":
                self.no(HOUSE_TEXT.replace("3 7", "3 " + figure * many))
                self.no("corner " + figure * many + " 0 0")

    def test_rows_in_another_order(self):
        rows = HOUSE_TEXT.split("\n")
        for k in range(len(rows) - 1):
            self.no("\n".join(rows[:k] + [rows[k + 1], rows[k]] + rows[k + 2:]))
        self.no("\n".join(rows[::-1]))
        self.no("\n".join(rows[1:] + rows[:1]))
        # Each kind by itself in its order, but the kinds not.
        self.no("\n".join(rows[6:13] + rows[:6] + rows[13:]))
        self.no("\n".join(rows[:13] + rows[15:18] + rows[13:15] + rows[18:]))
        self.no("\n".join(rows[:13] + rows[18:] + rows[13:18]))
        self.no("\n".join(rows[:6] + rows[13:] + rows[6:13]))

    def test_rows_told_twice_or_left_out(self):
        rows = HOUSE_TEXT.split("\n")
        for k in range(len(rows)):
            self.no("\n".join(rows[:k + 1] + rows[k:]))
            self.assertIs(self.told("\n".join(rows[:k] + rows[k + 1:])), k > 12)

    def test_words_more_fewer_or_others(self):
        rows = HOUSE_TEXT.split("\n")
        for k, row in enumerate(rows):
            words = row.split(" ")
            for other in (words[:-1], words + ["0"], words[1:], ["door"] + words, [words[0].upper()] + words[1:],
                          ["gate"] + words[1:], words[:1] + words[:0:-1], words[:1] + ["A"] + words[2:]):
                self.told("\n".join(rows[:k] + [" ".join(other)] + rows[k + 1:]))
        for text in ("corner", "wall", "corner 0 0 0", "wall 0 1", "hold a x 0 0 0 0", "thing a 0 0 1 1", "empty",
                     "none"):
            self.no(text)

    def test_the_text_of_what_is_no_plan(self):
        for old, new in (
            ("hold mid x 0 2 3 7", "hold mid x 0 2 6 7"), ("hold mid x 0 2 3 7", "hold mid z 0 2 3 7"),
            ("hold mid x 0 2 3 7", "hold mid x 0 6 3 7"), ("door front 0 2 0 1 2", "door front 0 2 0 4 2"),
            ("door front 0 2 0 1 2", "door front 2 0 0 1 2"), ("door front 0 2 0 1 2", "gate front 0 2 0 1 2"),
            ("thing bed 7 0 4 3", "thing bed 4 0 4 3"), ("thing bed 7 0 4 3", "thing bedbedbed 7 0 4 3"),
            ("corner 5 12 8", "corner 5 12 9"), ("corner 5 12 8", "corner 6 12 8"), ("wall 0 1", "wall 1 0"),
            ("thing bed 7 0 4 3", "thing bed 7 0 0 3"), ("thing bed", "thing Bed"), ("hold high", "hold hi-gh"),
        ):
            self.assertIn(old, HOUSE_TEXT)
            self.no(HOUSE_TEXT.replace(old, new))

    def test_more_than_a_plan_may_have(self):
        for place, word in ((1, "hold"), (2, "door"), (3, "thing")):
            text = written(FULL)
            row = [row for row in text.split("\n") if row.startswith(word)][-1]
            more = row.replace(row.split(" ")[1], names(60)[-1])
            self.no(text.replace(row, row + "\n" + more))
        many = net_of([(k, 0, k + 1, 0) for k in range(60)])
        self.assertFalse(is_plan((many, (), (), ())))
        self.no(written((many, (), (), ())))
        self.no("\n".join(["corner 0 0 0"] * 20000))

    def test_a_small_room(self):
        text = "corner 0 0 0\ncorner 1 0 1\ncorner 2 1 0\ncorner 3 1 1\nwall 0 1\nwall 0 2\nwall 1 3\nwall 2 3"
        self.assertEqual(read(text), (net_of(box(0, 0, 1, 1)), (), (), ()))
