"""[5]: the errors."""

import unittest

from keptholes import errors
from tests.values import anything

WITH_VALUE = [
    "InvalidFile", "InvalidNumber", "InvalidScript", "InvalidList", "InvalidWrite", "InvalidHistory", "InvalidContent",
]
WITHOUT_FIELD = ["Busy", "Closed"]


class Errors(unittest.TestCase):
    def test_hole_error_is_derived_from_value_error(self):
        self.assertEqual(errors.HoleError.__bases__, (ValueError,))

    def test_all_others_are_derived_directly_from_hole_error(self):
        for name in [*WITH_VALUE, "InvalidText", *WITHOUT_FIELD]:
            with self.subTest(name):
                self.assertEqual(getattr(errors, name).__bases__, (errors.HoleError,))

    def test_all_can_be_made_raised_and_caught_without_arguments(self):
        for name in ["HoleError", *WITH_VALUE, "InvalidText", *WITHOUT_FIELD]:
            with self.subTest(name):
                with self.assertRaises(errors.HoleError) as caught:
                    raise getattr(errors, name)()
                self.assertIs(type(caught.exception), getattr(errors, name))

    def test_fields_are_none_without_an_argument(self):
        for name in WITH_VALUE:
            with self.subTest(name):
                self.assertIsNone(getattr(errors, name)().value)
        self.assertIsNone(errors.InvalidText().spot)

    def test_value_holds_any_argument_itself(self):
        for name in WITH_VALUE:
            for value in anything():
                with self.subTest(name=name, value=value):
                    self.assertIs(getattr(errors, name)(value).value, value)
                    self.assertIs(getattr(errors, name)(value=value).value, value)

    def test_spot_holds_any_argument_itself(self):
        for value in anything():
            with self.subTest(value=value):
                self.assertIs(errors.InvalidText(value).spot, value)
                self.assertIs(errors.InvalidText(spot=value).spot, value)

    def test_errors_do_not_share_their_fields(self):
        first, second = errors.InvalidFile(1), errors.InvalidFile(2)
        self.assertEqual((first.value, second.value, errors.InvalidFile().value), (1, 2, None))
