"""Tests of wholefetch.errors."""

import unittest

from samples import HUGE, nested
from wholefetch import errors

REFUSALS = {
    "BadHouse": ("number",),
    "BadFetch": ("part", "number"),
    "BadClient": ("number",),
    "BadText": ("line", "place"),
    "BadHistory": ("given",),
    "BadGlue": ("given",),
    "BadNumber": ("given",),
    "BadRun": ("given",),
    "BadPaper": ("part",),
}
OTHERS = {"Parts": (RuntimeError, "history"), "Missing": (KeyError, "name")}
DEEP = nested(lambda thing: [thing])


class ErrorsTest(unittest.TestCase):

    def test_each_refusal_stands_straight_under_fetch_error(self):
        self.assertEqual(errors.FetchError.__bases__, (ValueError,))
        for name in [*REFUSALS, "BadQuestion"]:
            self.assertEqual(getattr(errors, name).__bases__, (errors.FetchError,), name)

    def test_the_others_stand_straight_under_errors_of_python(self):
        for name, (base, attribute) in OTHERS.items():
            self.assertEqual(getattr(errors, name).__bases__, (base,), name)

    def test_each_class_is_defined_here(self):
        for name in ["FetchError", "BadQuestion", *REFUSALS, *OTHERS]:
            self.assertEqual(getattr(errors, name).__module__, "wholefetch.errors")
            self.assertEqual(getattr(errors, name).__name__, name)

    def test_refusals_have_their_attributes_by_position(self):
        for name, attributes in REFUSALS.items():
            for told in ((0, None), ("form", 3), (None, "a"), (DEEP, HUGE)):
                error = getattr(errors, name)(*told[:len(attributes)])
                self.assertEqual(sorted(vars(error)), sorted(attributes), name)
                for attribute, value in zip(attributes, told):
                    self.assertIs(getattr(error, attribute), value, name)

    def test_the_others_have_their_attribute(self):
        for name, (base, attribute) in OTHERS.items():
            for told in ((0, 1), None, HUGE, DEEP):
                error = getattr(errors, name)(told)
                self.assertEqual(sorted(vars(error)), [attribute])
                self.assertIs(getattr(error, attribute), told)

    def test_an_attribute_is_that_of_one_object_alone(self):
        first, second = errors.BadHouse(1), errors.BadHouse(2)
        self.assertEqual((first.number, second.number), (1, 2))
        self.assertFalse(hasattr(errors.BadHouse, "number"))

    def test_bad_question_is_made_with_a_text_and_has_no_attributes(self):
        error = errors.BadQuestion("why not")
        self.assertEqual(vars(error), {})
        self.assertEqual(str(error), "why not")

    def test_errors_can_be_shown_whatever_was_passed(self):
        for told in (HUGE, DEEP):
            for name, attributes in REFUSALS.items():
                error = getattr(errors, name)(*[told] * len(attributes))
                self.assertTrue(str(error) and repr(error))
            for name in OTHERS:
                self.assertTrue(str(getattr(errors, name)(told)))


if __name__ == "__main__":
    unittest.main()
