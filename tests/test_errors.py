"""The classes of refusal, and where they stand."""

import unittest

from lendwharf import errors

OF_A_TEXT = (
    "NoTable", "NoHouse", "NoDeed", "NoLetter", "NoStand", "NoRoad", "NoPlan",
    "NoBook", "NoManner", "TooMany", "NoText", "NoRow", "NoName",
)


class Errors(unittest.TestCase):
    def test_wharf_error_is_right_under_value_error(self):
        self.assertEqual(errors.WharfError.__bases__, (ValueError,))

    def test_each_class_is_right_under_wharf_error_alone(self):
        for name in OF_A_TEXT + ("Short",):
            with self.subTest(name):
                self.assertEqual(getattr(errors, name).__bases__, (errors.WharfError,))

    def test_no_two_names_mean_one_class(self):
        classes = [getattr(errors, name) for name in OF_A_TEXT + ("Short",)]
        self.assertEqual(len(set(classes)), 14)
        for name, one in zip(OF_A_TEXT + ("Short",), classes):
            self.assertEqual(one.__name__, name)

    def test_each_is_made_of_a_text(self):
        for name in OF_A_TEXT:
            with self.subTest(name):
                error = getattr(errors, name)("some words")
                self.assertEqual(str(error), "some words")
                self.assertIsInstance(error, ValueError)

    def test_short_tells_what_was_had(self):
        for had in (0, 7, -3, 10 ** 31 - 1, 10 ** 5000):
            error = errors.Short(had)
            self.assertTrue(error.had == had)
            self.assertIsInstance(str(error), str)

    def test_each_short_has_its_own_field(self):
        one = errors.Short(1)
        other = errors.Short(2)
        self.assertEqual((one.had, other.had), (1, 2))


if __name__ == "__main__":
    unittest.main()
