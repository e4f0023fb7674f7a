"""The desk [2, 3, 32]."""

import random
import re
import unittest

from tests import samples, slow
from tests.samples import STRANGE, box, net_of
from tests.slow import HOUSE, names
from tests.test_plans import FULL
from wallplan import plans
from wallplan.changes import changed
from wallplan.desk import Desk
from wallplan.errors import NoText, PlanError
from wallplan.fits import fit
from wallplan.plans import EMPTY, is_plan
from wallplan.rooms import cell_at, rooms
from wallplan.texts import read, written
from wallplan.ways import depths, ways

MOST = 10 ** 6
TOO_GREAT = "10000000"

HOUSE_ROWS = (
    "wall 0 0 12 0", "wall 0 8 12 8", "wall 0 0 0 8", "wall 12 0 12 8", "wall 5 0 5 8", "hold high y 0 2 8 8",
    "hold mid x 0 4 3 7", "door front 0 4 0 1 2", "door inner 4 5 4 3 2", "window pane 1 3 3 1 3", "thing bed 7 0 4 3",
    "thing desk 0 5 3 2",
)


def in_a_row(plan):
    return written(plan).replace("\n", " ; ")


def desk_of(*rows):
    """A desk that was told these rows, each answered ok."""
    desk = Desk()
    for row in rows:
        answer = desk.say(row)
        assert answer == "ok", (row, answer)
    return desk


def house():
    """A desk with the house, loaded."""
    return desk_of("load " + in_a_row(HOUSE))


class DeskTest(unittest.TestCase):
    """What is common to the tests of the desk."""

    def says(self, desk, *rows):
        """Each row, told ahead of its answer, is answered so."""
        for row, answer in zip(rows[::2], rows[1::2]):
            told = desk.say(row)
            self.assertIs(type(told), str)
            self.assertEqual(told, answer, row)

    def keeps(self, desk, *rows):
        """Each row is answered so, twice, and changes nothing: neither the plan nor what is undone or done again."""
        asked = ("show", "changes")
        before = [desk.say(row) for row in asked]
        for row, answer in zip(rows[::2], rows[1::2]):
            self.says(desk, row, answer, row, answer)
            self.assertEqual([desk.say(row) for row in asked], before, row)


class KnownRowsTest(DeskTest):
    def test_a_desk_at_first(self):
        self.keeps(Desk(), "show", "empty", "rooms", "none", "depths 1", "none", "changes", "none", "undo", "none",
                   "redo", "none", "cell 0 0", "outside", "cell -1 -7", "outside", "room 0", "no room",
                   "fit 0 1 1", "no room", "out 0 1", "no room")

    def test_each_deed(self):
        desk = desk_of(*HOUSE_ROWS)
        self.says(desk, "show", (
            "corner 0 0 0 ; corner 1 12 0 ; corner 2 0 8 ; corner 3 12 8 ; corner 4 5 0 ; corner 5 5 8 ; wall 0 2"
            " ; wall 0 4 ; wall 1 3 ; wall 2 5 ; wall 4 1 ; wall 4 5 ; wall 5 3 ; hold high y 0 2 8 8"
            " ; hold mid x 0 4 3 7"
            " ; door front 0 4 0 1 2 ; door inner 4 5 4 3 2 ; window pane 1 3 3 1 3 ; thing bed 7 0 4 3"
            " ; thing desk 0 5 3 2"
        ))
        self.says(desk, "move 4 x 1", "ok", "rooms", "48 48", "move 5 x -1", "ok", "rooms", "40 56")
        self.says(desk, "unhold mid", "ok", "unopen front", "ok", "unopen pane", "ok", "unthing bed", "ok", "show", (
            "corner 0 0 0 ; corner 1 12 0 ; corner 2 0 8 ; corner 3 12 8 ; corner 4 5 0 ; corner 5 5 8 ; wall 0 2"
            " ; wall 0 4 ; wall 1 3 ; wall 2 5 ; wall 4 1 ; wall 4 5 ; wall 5 3 ; hold high y 0 2 8 8"
            " ; door inner 4 5 4 3 2 ; thing desk 0 5 3 2"
        ))
        self.says(desk, "unwall 5 4", "ok", "rooms", "96", "unwall 0 4", "nothing desk", "unthing desk", "ok",
                  "unwall 4 0", "ok", "rooms", "none", "load", "ok", "show", "empty")

    def test_a_move_takes_the_whole_group(self):
        desk = house()
        self.says(desk, "unthing bed", "ok", "unthing desk", "ok", "move 0 y 3", "ok", "cell 0 2", "outside",
                  "cell 0 10", "0", "rooms", "40 56")

    def test_show_tells_what_load_reads(self):
        for plan in (EMPTY, HOUSE, FULL) + slow.chance_plans()[::6]:
            desk = Desk()
            self.says(desk, "load " + in_a_row(plan), "ok", "show", in_a_row(plan) or "empty")

    def test_questions(self):
        self.keeps(house(), "rooms", "40 56", "cell 4 7", "0", "cell 5 0", "1", "cell 12 0", "outside",
                   "cell -1 0", "outside", "cell 9999999 -9999999", "outside", "room 0", "40 0 2 3 1",
                   "room 1", "56 2 4 5 3", "room 2", "no room", "room -1", "no room", "room 9999999", "no room",
                   "fit 0 1 1", "0 0", "fit 0 3 3", "0 2", "fit 1 6 3", "5 5", "fit 1 7 3", "5 5",
                   "fit 1 7 4", "nowhere", "fit 0 9999999 9999999", "nowhere", "fit 2 1 1", "no room",
                   "fit -1 1 1", "no room", "depths 1", "1 2", "depths 2", "1 2", "depths 3", "- -",
                   "depths 9999999", "- -", "out 0 1", "front", "out 1 2", "inner front", "out 1 3", "no way",
                   "out 2 1", "no room", "out -1 1", "no room")
        desk = house()
        self.says(desk, "unopen inner", "ok", "depths 1", "1 -", "out 1 1", "no way", "out 0 2", "front")

    def test_a_ring_in_which_a_corner_stands_twice(self):
        desk = desk_of("load " + in_a_row((samples.FREE, (), (), ())))
        self.says(desk, "room 0", "24 0 3 4 2 4 5 1", "rooms", "24")

    def test_parts_within_rooms(self):
        desk = desk_of("load " + in_a_row((samples.NEST, (), (), ())))
        self.says(desk, "rooms", "176 124 100", "room 0", "176 0 12 13 1", "cell 2 3", "1", "cell 8 9", "2")


class NotKnownTest(DeskTest):
    def test_what_is_no_text(self):
        desk = house()
        for thing in STRANGE:
            self.keeps(desk, thing, "not known")
        for thing in (["show"], ("undo",), b"undo", b"show", None, 0, True, [["undo"]]):
            self.keeps(desk, thing, "not known")

    def test_other_words(self):
        for row in ("", " ", "  ", "\n", "\t", "shows", "SHOW", "Undo", "sho", "ok", "none", "help", "say",
                    "corner 0 0 0",
                    "put 0 0 1 1", "unwall", "quit", "load\t", "load\n", "loads", "Load", "unload", "undo redo", "0",
                    "empty"):
            self.keeps(house(), row, "not known")

    def rows(self):
        """Rows of each kind, all known."""
        return ("wall 0 20 5 20", "unwall 2 3", "move 2 x 1", "hold a x 0 0 0 0", "door a 0 1 0 0 1",
                "window a 0 1 0 0 1",
                "thing a 0 0 1 1", "unhold mid", "unopen front", "unthing bed", "undo", "redo", "show", "rooms",
                "cell 0 0",
                "room 0", "fit 0 1 1", "depths 1", "out 0 1", "changes")

    def test_words_more_or_fewer_and_blanks(self):
        desk = house()
        for row in self.rows():
            self.assertNotEqual(house().say(row), "not known", row)
            words = row.split(" ")
            others = [row + " 0", row + " a", row + " ", " " + row, row + "\n", "\n" + row, row + "\t", row + " \n",
                      row + ";"]
            others += [row.replace(" ", "  ", 1), row.replace(" ", "\t", 1),
                       row.replace(" ", "\n")] if len(words) > 1 else []
            others += [" ".join(words[:-1])] if len(words) > 1 else []
            others += [" ".join(words[:k] + [""] + words[k:]) for k in range(1, len(words) + 1)]
            others += [" ".join([words[0]] * 2 + words[1:]), row.upper(), row.title()]
            for other in others:
                self.keeps(desk, other, "not known")

    def test_numbers_written_otherwise(self):
        desk = house()
        for row in self.rows():
            words = row.split(" ")
            for k, word in enumerate(words):
                if word.isdigit():
                    for other in ("12345678", "-12345678", "00", "01", "-0", "-01", "+1", "+0", "1.0", "1e1", "0x1",
                                  "a", "-",
                                  "--1", "1-", "1_0", "", "\u0661", "\u00b2", "1" * 5000, "None", "True", TOO_GREAT):
                        self.keeps(desk, " ".join(words[:k] + [other] + words[k + 1:]), "not known")

    def test_no_other_sign_is_a_figure(self):
        desk = house()
        for sign in [chr(k) for k in range(32, 127)] + ["\t", "\n"]:
            if not sign.isdigit():
                for word in ("1" + sign, "1" + sign + "1", sign, "-" + sign) + ((sign + "1",) if sign != "-" else ()):
                    self.keeps(desk, f"cell {word} 0", "not known", f"room {word}", "not known")

    def test_numbers_of_seven_figures_are_known(self):
        desk = house()
        self.keeps(desk, "wall 0 0 9999999 0", "nowall", "wall -9999999 0 0 0", "nowall",
                   "unwall 9999999 -9999999", "nowall", "move 9999999 x 1", "nocorner", "move 2 x 9999999", "nomove",
                   "move 2 x -9999999", "nomove", "hold a x 0 1 -9999999 9999999", "nohold",
                   "hold a x 9999999 0 0 1", "nohold", "door a 9999999 1 0 0 1", "noopening",
                   "door a 0 1 0 9999999 1", "noopening", "thing a 0 0 9999999 1", "nothing",
                   "cell 9999999 9999999", "outside", "depths 9999999", "- -", "out 0 9999999", "no way")

    def test_names(self):
        desk = house()
        for row in ("hold NAME x 0 0 0 0", "door NAME 0 1 0 0 1", "window NAME 0 1 0 0 1", "thing NAME 3 0 1 1",
                    "unhold NAME",
                    "unopen NAME", "unthing NAME"):
            for name in ("", "abcdefghi", "A", "a1", "1", "a-b", "a_b", "a;", "a.", "\u00e9", "aB", "a\n", "a\t"):
                self.keeps(desk, row.replace("NAME", name), "not known")
            for name in ("a", "abcdefgh", "zzzzzzzz"):
                self.assertNotEqual(house().say(row.replace("NAME", name)), "not known")

    def test_axes(self):
        self.keeps(house(), "move 2 z 1", "noaxis", "move 2 a 1", "noaxis", "move 9 z 1", "nocorner",
                   "hold a z 0 0 0 0", "nohold", "move 2 X 1", "not known", "move 2 xy 1", "not known",
                   "move 2 1 1", "not known", "move 2  1", "not known", "hold a xx 0 0 0 0", "not known",
                   "hold a X 0 0 0 0", "not known", "hold a 1 0 0 0 0", "not known", "move 2 - 1", "not known")

    def test_sizes_below_1_in_questions(self):
        desk = house()
        for size in ("0", "-1", "-9999999"):
            self.keeps(desk, f"fit 0 {size} 1", "not known", f"fit 0 1 {size}", "not known",
                       f"fit 9 {size} 1", "not known", f"depths {size}", "not known", f"out 0 {size}", "not known",
                       f"out 9 {size}", "not known")
            # In deeds they are known, but refused.
            self.keeps(desk, f"thing a 0 0 {size} 1", "nothing", f"thing a 0 0 1 {size}", "nothing",
                       f"door a 0 1 0 0 {size}", "noopening", f"window a 0 1 0 0 {size}", "noopening")


class RefusedTest(DeskTest):
    def test_each_refusal(self):
        self.keeps(house(), "wall 0 0 0 5", "nowall", "wall 1 1 2 2", "nowall", "wall 1 1 1 1", "nowall",
                   "wall -1 0 -1 5", "nowall", "unwall 0 5", "nowall", "unwall 0 0", "nowall", "move 6 x 1", "nocorner",
                   "move -1 x 1", "nocorner", "move 2 q 1", "noaxis", "move 2 x 7", "nomove", "move 2 x 3", "held mid",
                   "hold a x 0 6 0 1", "nohold", "hold a x 0 1 1 0", "nohold", "hold a x 0 2 6 7", "held a",
                   "hold mid x 0 2 6 7", "held mid", "door a 1 0 0 0 1", "noopening", "door a 0 1 2 0 1", "noopening",
                   "door a 0 1 0 8 1", "noopening a", "window zz 0 2 0 2 2", "noopening front",
                   "wall 2 0 2 3", "noopening front", "wall 9 0 9 1", "nothing bed", "thing a -1 0 1 1", "nothing",
                   "thing a 4 0 2 1", "nothing a", "thing zz 7 0 1 1", "nothing bed", "door a 4 5 4 0 2", "nothing bed",
                   "unwall 0 1", "nothing desk", "unhold a", "noname", "unhold front", "noname", "unopen a", "noname",
                   "unopen bed", "noname", "unthing a", "noname", "unthing mid", "noname", "load x", "notext",
                   "load corner 0 0 0", "notext")

    def test_too_many(self):
        desk = desk_of("load " + in_a_row(FULL))
        self.keeps(desk, "hold zz x 0 0 0 0", "toomany", "door zz 0 1 0 90 1", "toomany",
                   "window zz 0 1 0 90 1", "toomany", "thing zz 110 0 1 1", "toomany", "hold zz z 0 0 0 0", "nohold",
                   "hold zz x 0 0 1 1", "toomany")
        desk = desk_of("load " + in_a_row((samples.lattice_net(90), (), (), ())))
        self.keeps(desk, "wall 0 20 5 20", "toomany", "wall 0 0 0 20", "nowall")

    def test_a_refused_deed_neither_undoes_nor_bars(self):
        desk = house()
        self.says(desk, "unthing bed", "ok", "undo", "ok", "wall 0 0 0 5", "nowall", "nonsense", "not known",
                  "show", in_a_row(HOUSE), "rooms", "40 56", "load x", "notext", "redo", "ok",
                  "thing bed 7 0 4 3", "ok", "show", in_a_row(HOUSE))


class LoadTest(DeskTest):
    def test_none(self):
        for row in ("load", "load "):
            self.says(house(), row, "ok", "show", "empty", "rooms", "none", "undo", "ok", "show", in_a_row(HOUSE))

    def test_a_text(self):
        self.says(Desk(), "load corner 0 2 5 ; corner 1 2 9 ; wall 0 1", "ok",
                  "show", "corner 0 2 5 ; corner 1 2 9 ; wall 0 1")

    def test_in_the_place_of_another_plan(self):
        desk = house()
        self.says(desk, "load corner 0 2 5 ; corner 1 2 9 ; wall 0 1", "ok", "rooms", "none",
                  "load " + in_a_row(HOUSE), "ok", "rooms", "40 56", "undo", "ok", "rooms", "none", "undo", "ok",
                  "rooms", "40 56", "undo", "ok", "show", "empty")

    def test_no_text(self):
        lone = "corner 0 2 5 ; corner 1 2 9 ; wall 0 1"
        for text in (lone + " ", " " + lone, lone + " ; ", " ; " + lone, lone.replace(" ; ", ";"),
                     lone.replace(" ; ", " ;"),
                     lone.replace(" ; ", "; "), lone.replace(" ; ", "  ;  "), lone.replace(" ; ", " ; ; "), lone + "\n",
                     ";",
                     " ; ", " ", "  ", "empty", "none", lone.replace(" ; ", "\n"), "\n", "\n" + lone, lone + ";",
                     lone.upper(),
                     lone.replace(" ; ", "\n", 1), lone.replace(" ; ", " \n "), "corner 0 2 5", lone.replace("9", "09"),
                     lone.replace(" ; ", " , "), lone + " ; wall 0 1", "\t", lone + " ; \n", "load " + lone):
            self.keeps(house(), "load " + text, "notext")
        self.keeps(Desk(), "load \n", "notext", "load wall 0 1", "notext")

    def test_with_line_ends(self):
        text = written(HOUSE)
        self.keeps(house(), "load " + text, "notext", "load " + in_a_row(HOUSE).replace(" ; ", "\n", 1), "notext",
                   "load\n" + text, "not known")


class UndoTest(DeskTest):
    def test_as_often_as_there_are_some(self):
        desk = Desk()
        shown = [desk.say("show")]
        for row in HOUSE_ROWS:
            self.says(desk, row, "ok")
            shown.append(desk.say("show"))
        for times in range(2):
            for text in shown[-2::-1]:
                self.says(desk, "undo", "ok", "show", text)
            self.says(desk, "undo", "none", "undo", "none", "show", "empty")
            for text in shown[1:]:
                self.says(desk, "redo", "ok", "show", text)
            self.says(desk, "redo", "none", "redo", "none", "show", shown[-1])

    def test_some_way_back_and_on(self):
        desk = desk_of(*HOUSE_ROWS)
        shown = desk.say("show")
        self.says(desk, "undo", "ok", "undo", "ok", "redo", "ok", "undo", "ok", "undo", "ok", "redo", "ok",
                  "redo", "ok", "redo", "ok", "redo", "none", "show", shown)

    def test_a_deed_behind_an_undo_bars_redo(self):
        desk = house()
        self.says(desk, "unthing bed", "ok", "unthing desk", "ok", "undo", "ok", "undo", "ok", "unopen pane", "ok",
                  "redo", "none", "undo", "ok", "show", in_a_row(HOUSE), "redo", "ok", "redo", "none", "undo", "ok",
                  "undo", "ok", "show", "empty", "undo", "none")

    def test_a_deed_that_changes_nothing_counts(self):
        desk = house()
        self.says(desk, "move 2 x 0", "ok", "changes", "none", "undo", "ok", "rooms", "40 56", "undo", "ok",
                  "show", "empty", "redo", "ok", "redo", "ok", "redo", "none")
        self.says(desk, "undo", "ok", "thing bed 7 0 4 3", "ok", "redo", "none", "undo", "ok", "undo", "ok",
                  "undo", "none")

    def test_questions_do_not_matter(self):
        desk = house()
        self.says(desk, "unthing bed", "ok", "undo", "ok")
        for row in ("show", "rooms", "cell 0 0", "room 0", "fit 0 1 1", "depths 1", "out 0 1", "changes", "room 9",
                    "gibberish"):
            desk.say(row)
        self.says(desk, "redo", "ok", "fit 1 4 3", "5 0")

    def test_undo_without_any_changes_nothing(self):
        desk = house()
        self.says(desk, "undo", "ok")
        told = desk.say("changes")
        self.says(desk, "undo", "none", "changes", told, "redo", "ok")
        told = desk.say("changes")
        self.says(desk, "redo", "none", "changes", told)

    def test_some_hundred(self):
        desk = desk_of("wall 0 0 0 10")
        shown = [desk.say("show")]
        for k in range(400):
            self.says(desk, f"move 0 x {1 + k % 7}", "ok")
            shown.append(desk.say("show"))
        self.assertEqual(len(set(shown)), 401)
        for text in shown[-2::-1]:
            self.says(desk, "undo", "ok", "show", text)
        for text in shown[1:]:
            self.says(desk, "redo", "ok", "show", text)
        self.says(desk, "redo", "none")


class ChangesTest(DeskTest):
    def test_behind_each_deed(self):
        desk = Desk()
        for row, told in zip(HOUSE_ROWS,
                             ("none", "none", "none", "-1 0 0 96", "0 0 96 40, 0 1 96 56", "high", "mid", "front",
                                          "inner", "pane", "bed", "desk")):
            self.says(desk, row, "ok", "changes", told, "changes", told)

    def test_all_at_once(self):
        desk = house()
        told = "-1 0 0 40, -1 1 0 56, high, mid, front, inner, pane, bed, desk"
        self.says(desk, "changes", told, "undo", "ok",
                  "changes", "0 -1 40 0, 1 -1 56 0, high, mid, front, inner, pane, bed, desk", "redo", "ok",
                  "changes", told, "load", "ok",
                  "changes", "0 -1 40 0, 1 -1 56 0, high, mid, front, inner, pane, bed, desk")

    def test_behind_undo_and_redo(self):
        desk = house()
        self.says(desk, "move 2 x 2", "ok", "changes", "0 0 40 56, 1 0 56 56, 1 1 56 40", "undo", "ok",
                  "changes", "0 0 56 40, 0 1 56 56, 1 1 40 56", "redo", "ok",
                  "changes", "0 0 40 56, 1 0 56 56, 1 1 56 40")

    def test_a_refused_deed_or_a_question_does_not_matter(self):
        desk = house()
        self.says(desk, "unthing bed", "ok", "wall 0 0 0 5", "nowall", "rooms", "40 56", "redo", "none",
                  "x", "not known", "changes", "bed")

    def test_a_wall_taken_with_what_is_on_it(self):
        desk = house()
        self.says(desk, "unwall 2 3", "ok", "changes", "0 0 40 96, 1 0 56 96, inner")


class ApartTest(DeskTest):
    def test_two_desks_have_nothing_of_one_another(self):
        one, other = Desk(), Desk()
        self.says(one, "wall 0 0 0 5", "ok")
        self.says(other, "show", "empty", "undo", "none", "changes", "none", "wall 3 3 3 4", "ok", "undo", "ok")
        self.says(one, "redo", "none", "show", "corner 0 0 0 ; corner 1 0 5 ; wall 0 1", "undo", "ok", "undo", "none")
        self.says(other, "redo", "ok", "show", "corner 0 3 3 ; corner 1 3 4 ; wall 0 1")
        self.says(Desk(), "show", "empty", "undo", "none", "redo", "none")

    def test_the_same_rows_are_answered_the_same(self):
        self.assertEqual(desk_of(*HOUSE_ROWS).say("show"), desk_of(*HOUSE_ROWS).say("show"))


FORMS = {
    "wall": "NNNN", "unwall": "NN", "move": "NAN", "hold": "WANNNN", "door": "WNNNNN", "window": "WNNNNN",
    "thing": "WNNNN",
    "unhold": "W", "unopen": "W", "unthing": "W", "undo": "", "redo": "", "show": "", "rooms": "", "cell": "NN",
    "room": "N",
    "fit": "NSS", "depths": "S", "out": "NS", "changes": "",
}
SIGNS = {"N": "(?:0|-?[1-9][0-9]{0,6})", "S": "[1-9][0-9]{0,6}", "W": "[a-z]{1,8}", "A": "[a-z]"}


class PlainDesk:
    """What [32] tells, with all plans kept in a row."""

    def __init__(self):
        self.all, self.at, self.before = [EMPTY], 0, None

    def say(self, row):
        word, *rest = row.split(" ")
        if word == "load":
            return self.deed(lambda plan: self.load(row[5:]))
        if word not in FORMS or not re.fullmatch(" ".join([word] + [SIGNS[sign] for sign in FORMS[word]]), row):
            return "not known"
        handed = [value if sign in "WA" else int(value) for sign, value in zip(FORMS[word], rest)]
        if word in ("undo", "redo"):
            return self.step(-1 if word == "undo" else 1)
        deeds = {
            "wall": lambda plan: plans.wall_put(plan, tuple(handed[:2]), tuple(handed[2:])),
            "unwall": lambda plan: plans.wall_taken(plan, *handed),
            "move": lambda plan: plans.group_moved(plan, *handed),
            "hold": lambda plan: plans.hold_put(plan, tuple(handed)),
            "thing": lambda plan: plans.thing_put(plan, tuple(handed)),
            "unhold": lambda plan: plans.hold_taken(plan, *handed),
            "unopen": lambda plan: plans.opening_taken(plan, *handed),
            "unthing": lambda plan: plans.thing_taken(plan, *handed),
        }
        if word in ("door", "window"):
            return self.deed(lambda plan: plans.opening_put(plan, (handed[0], word, tuple(handed[1:3]), *handed[3:])))
        return self.deed(deeds[word]) if word in deeds else self.question(word, handed)

    def load(self, text):
        if "\n" in text:
            raise NoText("line ends")
        return read(text.replace(" ; ", "\n"))

    def deed(self, make):
        try:
            new = make(self.all[self.at])
        except PlanError as refusal:
            named = getattr(refusal, "name", None)
            return type(refusal).__name__.lower() + (" " + named if named is not None else "")
        self.all[self.at + 1:] = [new]
        return self.step(1)

    def step(self, d):
        if not 0 <= self.at + d < len(self.all):
            return "none"
        self.before = self.all[self.at]
        self.at += d
        return "ok"

    def question(self, word, handed):
        plan = self.all[self.at]
        if word == "show":
            return in_a_row(plan) or "empty"
        if word == "rooms":
            return " ".join(str(area) for _, _, area in rooms(plan[0])) or "none"
        if word == "cell":
            number = cell_at(plan[0], *handed)
            return "outside" if number is None else str(number)
        if word == "depths":
            return " ".join("-" if depth is None else str(depth) for depth in depths(plan, *handed)) or "none"
        if word == "changes":
            pairs, *named = changed(self.before, plan) if self.before is not None else ((), (), (), ())
            told = [" ".join(map(str, pair)) for pair in pairs] + [name for row in named for name in row]
            return ", ".join(told) or "none"
        if not 0 <= handed[0] < len(rooms(plan[0])):
            return "no room"
        if word == "room":
            ring, _, area = rooms(plan[0])[handed[0]]
            return " ".join(map(str, (area, *ring)))
        if word == "fit":
            spot = fit(plan, *handed)
            return "nowhere" if spot is None else f"{spot[0]} {spot[1]}"
        way = ways(plan, handed[1])[handed[0]]
        return "no way" if way is None else " ".join(way)


def chance_row(chance, plan):
    """A row by chance: most are deeds that may be done."""
    net = plan[0]
    c, a, b = 0, 0, 1
    if net[0]:
        c, (a, b) = chance.choice(net[0])[0], chance.choice(net[1])
    name = chance.choice(names(9) + [row[0] for rows in plan[1:] for row in rows])
    k, j, m = [chance.randrange(13) for _ in range(3)]
    small = chance.randint(0, 4)
    line = f"{k} {j} {m} {j}" if chance.randrange(2) else f"{j} {k} {j} {m}"
    return chance.choice([
        f"wall {line}", f"wall {line}", f"wall {line}", f"wall {line}", f"unwall {b} {a}", f"wall {k} {j} {m} {small}",
        f"move {c} {chance.choice('xy')} {chance.randint(-3, 3)}",
        f"move {c} {chance.choice('xyz')} {chance.randint(-3, 3)}",
        f"hold {name} {chance.choice('xy')} {c} {a} {-k} {j}",
        f"door {name} {a} {b} {chance.choice([a, b])} {small} {1 + m % 3}",
        f"door {name} {a} {b} {a} {small} 1", f"window {name} {a} {b} {b} 0 {small}",
        f"thing {name} {k} {j} {small} {1 + m % 3}",
        f"thing {name} {k} {j} 1 {1 + m % 3}", f"unhold {name}", f"unopen {name}", f"unthing {name}", "undo", "undo",
        "undo", "redo",
        "redo", "show", "rooms", f"cell {k} {j - 2}", f"room {small}", f"fit {small} {1 + m % 3} {small}",
        f"depths {small}",
        f"out {m % 3} {1 + k % 2}", "changes", "changes", f"{chance.choice(list(FORMS))} {k} {name}",
        f"hold {name} x {c} {b} 0 0",
        "load " + in_a_row(plan), f"load {name}",
    ])


class ChanceTest(DeskTest):
    def test_as_the_plain_desk(self):
        seen = {}
        for seed in range(12):
            chance = random.Random(seed)
            desk, plain = Desk(), PlainDesk()
            if seed % 3 == 0:
                self.says(desk, "load " + in_a_row(HOUSE), "ok")
                plain.say("load " + in_a_row(HOUSE))
            for _ in range(150):
                row = chance_row(chance, plain.all[plain.at])
                expected = plain.say(row)
                self.says(desk, row, expected)
                self.assertTrue(is_plan(plain.all[plain.at]))
                kind = expected.split(" ")[0] if row.split(" ")[0] in FORMS else "none"
                seen[kind] = seen.get(kind, 0) + 1
            self.says(desk, "show", plain.say("show"), "changes", plain.say("changes"))
        for kind in ("ok", "none", "not", "nowall", "nomove", "noname", "noopening", "nothing", "noaxis", "held",
                     "outside", "no"):
            self.assertGreater(seen.get(kind, 0), 2, (kind, seen))


class GreatTest(DeskTest):
    def test_great_numbers(self):
        desk = desk_of(f"wall 0 0 {MOST} 0", f"wall {MOST} 0 {MOST} {MOST}", f"wall {MOST} {MOST} 0 {MOST}",
                       f"wall 0 {MOST} 0 0")
        self.says(desk, "rooms", str(MOST * MOST), f"fit 0 {MOST} {MOST}", "0 0", f"thing a 0 0 {MOST} {MOST}", "ok",
                  "fit 0 1 1", "nowhere", f"door a 0 1 0 0 {MOST}", "nothing a", "unthing a", "ok",
                  f"door a 0 1 0 0 {MOST}", "ok", f"depths {MOST}", "1", f"depths {MOST + 1}", "-",
                  f"out 0 {MOST}", "a")
        self.says(desk, "changes", "a", "undo", "ok", "undo", "ok", "undo", "ok", "undo", "ok",
                  "changes", f"0 -1 {MOST * MOST} 0")

    def test_a_lattice(self):
        net = net_of(box(0, 0, 4, 4))
        desk = desk_of("load " + in_a_row((net, (), (), ())))
        for k in (1, 2, 3):
            self.says(desk, f"wall {k} 0 {k} 4", "ok", f"wall 0 {k} 4 {k}", "ok")
        self.says(desk, "rooms", " ".join(["1"] * 16))
