"""The refusals [2]."""

import unittest

from wallplan import errors

WITH_TEXT = ("NoNet", "NoWall", "TooMany", "NoCorner", "NoAxis", "NoMove", "NoPlan", "NoName", "NoText")
WITH_NAME = ("Held", "NoHold", "NoOpening", "NoThing")


class RefusalTest(unittest.TestCase):
    def test_plan_error_is_a_value_error(self):
        self.assertTrue(issubclass(errors.PlanError, ValueError))

    def test_each_is_under_plan_error_and_under_no_other_one(self):
        for name in WITH_TEXT + WITH_NAME:
            made = getattr(errors, name)("desk")
            self.assertIsInstance(made, errors.PlanError)
            self.assertIsInstance(made, ValueError)
            for other in WITH_TEXT + WITH_NAME:
                self.assertEqual(isinstance(made, getattr(errors, other)), name == other, (name, other))

    def test_there_are_just_thirteen(self):
        classes = {name for name, value in vars(errors).items() if isinstance(value, type)}
        self.assertEqual(classes, {"PlanError", *WITH_TEXT, *WITH_NAME})

    def test_those_with_a_text_are_made_with_one_and_have_no_name(self):
        for name in WITH_TEXT:
            made = getattr(errors, name)("why it is so")
            self.assertEqual(str(made), "why it is so")
            self.assertFalse(hasattr(made, "name"), name)

    def test_those_with_a_name_keep_a_text_or_none(self):
        for name in WITH_NAME:
            self.assertEqual(getattr(errors, name)("desk").name, "desk")
            self.assertEqual(getattr(errors, name)("").name, "")
            self.assertIsNone(getattr(errors, name)(None).name)

    def test_each_is_raised_and_taken_by_its_own_name(self):
        for name in WITH_TEXT + WITH_NAME:
            refusal = getattr(errors, name)
            with self.assertRaises(refusal):
                raise refusal("desk")
            with self.assertRaises(errors.PlanError):
                raise refusal("desk")
