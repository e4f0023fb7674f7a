"""What README.md shows is so."""

import pathlib
import re
import unittest

from tests.samples import same
from wallplan import errors

README = pathlib.Path(__file__).resolve().parent.parent / "README.md"


def shown_rows():
    """The rows of Python that are shown ahead of the list of modules."""
    text = README.read_text().split("\nModules:\n")[0]
    return [row[4:] for row in text.split("\n") if row.startswith("    ")]


class ReadmeTest(unittest.TestCase):
    def test_each_row_answers_as_it_says(self):
        known = {}
        answers = 0
        for row in shown_rows():
            code, _, remark = row.partition("#")
            if re.match(r"from |\w+ = ", code):
                exec(code, known)
                continue
            refusal = re.match(r" (\w+), its field name (\"\w+\")", remark)
            if refusal:
                with self.assertRaises(getattr(errors, refusal.group(1))) as caught:
                    eval(code, known)
                self.assertEqual(caught.exception.name, eval(refusal.group(2)))
                answers += 1
                continue
            told = eval(code, known)
            value = re.match(r" (None|True|False|\d+|\"[^\"]*\")(?=[:;,]|$)| (\(.*?\))(?=[:;]|$)", remark)
            if value:
                self.assertTrue(same(told, eval(value.group(1) or value.group(2))), row)
                answers += 1
        self.assertGreater(answers, 25)
