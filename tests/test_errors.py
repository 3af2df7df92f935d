"""The refusals: their classes, their one base and their fields [2]."""

import unittest

from odd import odd_things
from propfall import errors

FIELDS = {
    "NoPlank": "part", "NoStrengths": None, "NoRest": "rest", "NoWeights": "at", "NoPlace": "place", "NoLot": None,
    "NoProp": "prop", "NoNumber": None, "NoGivings": "fault", "NoWeight": None, "NoLoadings": "at", "NoCart": "at",
    "NoRow": None, "NoDeed": "at", "TooMany": "many", "NoMenu": "at"}


class Refusals(unittest.TestCase):
    def test_the_base_stands_under_value_error(self):
        self.assertEqual(errors.FallError.__bases__, (ValueError,))

    def test_each_class_stands_right_under_the_base_and_in_this_file(self):
        for name in FIELDS:
            refusal = getattr(errors, name)
            self.assertEqual(refusal.__bases__, (errors.FallError,), name)
            self.assertEqual((refusal.__name__, refusal.__module__), (name, "propfall.errors"))

    def test_there_are_no_others(self):
        found = {name for name, thing in vars(errors).items() if isinstance(thing, type)}
        self.assertEqual(found, {"FallError", *FIELDS})

    def test_each_is_caught_by_its_name_its_base_and_value_error_alone(self):
        for name, field in FIELDS.items():
            refusal = getattr(errors, name)
            made = refusal(7) if field else refusal("a text")
            for other in FIELDS:
                self.assertEqual(isinstance(made, getattr(errors, other)), other == name, (name, other))
            for caught in (refusal, errors.FallError, ValueError):
                with self.assertRaises(caught):
                    raise made

    def test_those_with_a_field_bear_it_when_they_are_made(self):
        for name, field in FIELDS.items():
            if field:
                for thing in [*odd_things(), -1, 0, "length", ("form",), ("bears", 0), [1], [[]]]:
                    self.assertIs(getattr(getattr(errors, name)(thing), field), thing, name)

    def test_those_with_a_field_are_not_made_without_it(self):
        for name, field in FIELDS.items():
            if field:
                self.assertRaises(TypeError, getattr(errors, name))

    def test_those_without_a_field_are_made_of_nothing_or_a_text(self):
        for name in ["FallError"] + [name for name in FIELDS if not FIELDS[name]]:
            refusal = getattr(errors, name)
            self.assertEqual(str(refusal()), "")
            self.assertEqual(str(refusal("a text")), "a text")


if __name__ == "__main__":
    unittest.main()
