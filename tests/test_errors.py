"""The interface, filecrate/errors.py."""

import unittest

from filecrate import errors

NAMES = (
    "Cut", "BadForm", "BadPath", "LeadsOut", "NoEntry", "NotFolder", "Clash",
    "TooFar", "BadCrate", "BadVolume", "NotTogether", "Missing", "NothingBack",
)


class ErrorsTest(unittest.TestCase):
    def test_crate_error_stands_directly_below_value_error(self):
        self.assertEqual(errors.CrateError.__bases__, (ValueError,))

    def test_each_class_stands_directly_below_crate_error(self):
        for name in NAMES:
            with self.subTest(name=name):
                self.assertEqual(getattr(errors, name).__bases__, (errors.CrateError,))

    def test_none_stands_below_another_one(self):
        for name in NAMES:
            for other in NAMES:
                if name != other:
                    with self.subTest(name=name, other=other):
                        self.assertFalse(issubclass(getattr(errors, name), getattr(errors, other)))

    def test_each_class_keeps_its_own_name(self):
        for name in NAMES:
            with self.subTest(name=name):
                self.assertEqual(getattr(errors, name).__name__, name)

    def test_there_is_no_other_class(self):
        classes = {name for name, thing in vars(errors).items() if isinstance(thing, type)}
        self.assertEqual(classes, {"CrateError", *NAMES})

    def test_each_can_be_raised_and_caught_as_a_refusal(self):
        for name in NAMES:
            handed_in = (0, 3) if name == "Missing" else "why"
            with self.subTest(name=name):
                with self.assertRaises(errors.CrateError):
                    raise getattr(errors, name)(handed_in)

    def test_missing_keeps_its_numbers(self):
        for numbers in ((), (0,), (0, 3), tuple(range(2, 50))):
            with self.subTest(numbers=numbers):
                told = errors.Missing(numbers).numbers
                self.assertIs(type(told), tuple)
                self.assertEqual(told, numbers)

    def test_two_missing_keep_each_their_own_numbers(self):
        one, other = errors.Missing((1, 2)), errors.Missing((3, 4))
        self.assertEqual((one.numbers, other.numbers), ((1, 2), (3, 4)))


if __name__ == "__main__":
    unittest.main()
