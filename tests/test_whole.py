"""Promises 0.3 and 0.4, and the interface, for all that has landed."""

import copy
import inspect
import unittest

from filecrate import checks, numbers, sums

INTERFACE = (
    (numbers, "number_bytes", ["n"]),
    (numbers, "read_number", ["some", "at"]),
    (numbers, "fixed_bytes", ["n", "many"]),
    (numbers, "read_fixed", ["some", "at", "many"]),
    (sums, "sum_of", ["body"]),
    (sums, "sum_on", ["before", "body"]),
    (sums, "sum_joined", ["one", "other", "many"]),
    (sums, "sum_changed", ["before", "many", "place", "old", "new"]),
    (checks, "check_of", ["some"]),
    (checks, "check_on", ["before", "some"]),
)

BODY = tuple(k % 256 for k in range(1000))
BYTES = tuple(k * 7 % 256 for k in range(20000))

# How a function is asked, and what it tells: a whole number, a tuple of them, or a pair of two.
CALLS = (
    (numbers.number_bytes, (0,), "bytes"),
    (numbers.number_bytes, (128,), "bytes"),
    (numbers.number_bytes, (4398046511103,), "bytes"),
    (numbers.read_number, ((9, 172, 2, 9), 1), "pair"),
    (numbers.read_number, ((0,), 0), "pair"),
    (numbers.read_number, (BYTES[:-1] + (5,), 19999), "pair"),
    (numbers.fixed_bytes, (0, 1), "bytes"),
    (numbers.fixed_bytes, (65535, 6), "bytes"),
    (numbers.read_fixed, ((9, 1, 2, 9), 1, 2), "pair"),
    (numbers.read_fixed, ((0,), 0, 1), "pair"),
    (numbers.read_fixed, (BYTES, 19994, 6), "pair"),
    (sums.sum_of, ((),), "number"),
    (sums.sum_of, (BODY,), "number"),
    (sums.sum_on, (1, ()), "number"),
    (sums.sum_on, (65537, BODY), "number"),
    (sums.sum_joined, (1, 1, 0), "number"),
    (sums.sum_joined, (65537, 16777472, 1), "number"),
    (sums.sum_changed, (65537, 1, 0, 0, 255), "number"),
    (sums.sum_changed, (65537, 1, 0, 0, 0), "number"),
    (checks.check_of, ((),), "number"),
    (checks.check_of, ((0,),), "number"),
    (checks.check_of, (BYTES,), "number"),
    (checks.check_on, (0, (0,)), "number"),
    (checks.check_on, (65535, BYTES), "number"),
)


class WholeTest(unittest.TestCase):
    def test_names_and_arguments_are_as_the_interface_says(self):
        for module, name, arguments in INTERFACE:
            with self.subTest(name=name):
                self.assertEqual(list(inspect.signature(getattr(module, name)).parameters), arguments)

    def test_each_function_is_asked_here(self):
        asked = {call[0] for call in CALLS}
        self.assertEqual(asked, {getattr(module, name) for module, name, arguments in INTERFACE})

    def test_what_is_told_is_tuples_and_whole_numbers(self):
        for function, handed_in, kind in CALLS:
            with self.subTest(function=function.__name__, handed_in=str(handed_in)[:60]):
                self.check_kind(function(*handed_in), kind)

    def check_kind(self, told, kind):
        if kind == "number":
            # A truth is an int for Python, but no whole number.
            self.assertIs(type(told), int)
            return
        self.assertIs(type(told), tuple)
        self.assertEqual({type(part) for part in told}, {int})
        if kind == "pair":
            self.assertEqual(len(told), 2)
        else:
            self.assertTrue(all(0 <= byte <= 255 for byte in told))

    def test_what_is_handed_in_is_not_changed_and_the_same_is_told_again(self):
        for function, handed_in, kind in CALLS:
            with self.subTest(function=function.__name__, handed_in=str(handed_in)[:60]):
                kept = copy.deepcopy(handed_in)
                first = function(*handed_in)
                self.assertEqual(handed_in, kept)
                self.assertEqual(function(*handed_in), first)
                self.assertEqual(function(*kept), first)

    def test_the_same_is_told_again_after_all_others_were_asked(self):
        first = [function(*handed_in) for function, handed_in, kind in CALLS]
        again = [function(*handed_in) for function, handed_in, kind in reversed(CALLS)]
        self.assertEqual(first, again[::-1])

    def test_the_same_refusal_is_told_again(self):
        refused = (
            (numbers.read_number, ((128,), 0)),
            (numbers.read_number, ((128, 0), 0)),
            (numbers.read_fixed, ((1,), 0, 2)),
        )
        for function, handed_in in refused:
            with self.subTest(function=function.__name__, handed_in=handed_in):
                self.assertIs(self.refusal(function, handed_in), self.refusal(function, handed_in))

    def refusal(self, function, handed_in):
        with self.assertRaises(ValueError) as caught:
            function(*handed_in)
        return type(caught.exception)


if __name__ == "__main__":
    unittest.main()
