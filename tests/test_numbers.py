"""Promise 1.1."""

import unittest

from filecrate.errors import BadForm, Cut
from filecrate.numbers import fixed_bytes, number_bytes, read_fixed, read_number

GREATEST = 4398046511103

NUMBERS = (
    (0, (0,)),
    (1, (1,)),
    (2, (2,)),
    (127, (127,)),
    (128, (128, 1)),
    (129, (129, 1)),
    (255, (255, 1)),
    (256, (128, 2)),
    (300, (172, 2)),
    (16383, (255, 127)),
    (16384, (128, 128, 1)),
    (2097151, (255, 255, 127)),
    (2097152, (128, 128, 128, 1)),
    (268435455, (255, 255, 255, 127)),
    (268435456, (128, 128, 128, 128, 1)),
    (34359738367, (255, 255, 255, 255, 127)),
    (34359738368, (128, 128, 128, 128, 128, 1)),
    (1 + 2 * 128 + 3 * 128 ** 2 + 4 * 128 ** 3 + 5 * 128 ** 4 + 6 * 128 ** 5, (129, 130, 131, 132, 133, 6)),
    (GREATEST - 1, (254, 255, 255, 255, 255, 127)),
    (GREATEST, (255, 255, 255, 255, 255, 127)),
)

AHEAD = ((), (0,), (5,), (255,), (128, 128, 128, 128, 128, 128, 128), (1, 2, 3))
BEHIND = ((), (0,), (7,), (255,), (128, 128, 128, 128, 128, 128, 128))

FIXED = (
    (0, 1, (0,)),
    (1, 1, (1,)),
    (255, 1, (255,)),
    (0, 2, (0, 0)),
    (1, 2, (0, 1)),
    (255, 2, (0, 255)),
    (256, 2, (1, 0)),
    (258, 2, (1, 2)),
    (65535, 2, (255, 255)),
    (0, 3, (0, 0, 0)),
    (66051, 3, (1, 2, 3)),
    (16777215, 3, (255, 255, 255)),
    (0, 4, (0, 0, 0, 0)),
    (16909060, 4, (1, 2, 3, 4)),
    (2147483648, 4, (128, 0, 0, 0)),
    (4294967295, 4, (255, 255, 255, 255)),
    (0, 5, (0, 0, 0, 0, 0)),
    (4328719365, 5, (1, 2, 3, 4, 5)),
    (1099511627775, 5, (255, 255, 255, 255, 255)),
    (0, 6, (0, 0, 0, 0, 0, 0)),
    (7, 6, (0, 0, 0, 0, 0, 7)),
    (1108152157446, 6, (1, 2, 3, 4, 5, 6)),
    (281474976710655, 6, (255, 255, 255, 255, 255, 255)),
)


class NumberBytesTest(unittest.TestCase):
    def test_the_very_bytes(self):
        for number, told in NUMBERS:
            with self.subTest(number=number):
                self.assertEqual(number_bytes(number), told)

    def test_as_few_bytes_as_can_be_at_each_power_of_128(self):
        for many in range(1, 6):
            with self.subTest(many=many):
                self.assertEqual(len(number_bytes(128 ** many - 1)), many)
                self.assertEqual(len(number_bytes(128 ** many)), many + 1)

    def test_unlike_numbers_have_unlike_bytes(self):
        self.assertEqual(len({number_bytes(number) for number in range(20000)}), 20000)


class ReadNumberTest(unittest.TestCase):
    def test_number_and_place_behind_among_other_bytes(self):
        for number, told in NUMBERS:
            for ahead in AHEAD:
                for behind in BEHIND:
                    with self.subTest(number=number, ahead=ahead, behind=behind):
                        self.assertEqual(
                            read_number(ahead + told + behind, len(ahead)),
                            (number, len(ahead) + len(told)),
                        )

    def test_reads_what_number_bytes_tells(self):
        for number in list(range(20000)) + list(range(GREATEST - 300, GREATEST + 1)):
            told = number_bytes(number)
            self.assertEqual(read_number(told, 0), (number, len(told)))

    def test_numbers_one_behind_the_other(self):
        some = number_bytes(300) + number_bytes(0) + number_bytes(GREATEST) + number_bytes(5)
        numbers, at = [], 0
        while at < len(some):
            number, at = read_number(some, at)
            numbers.append(number)
        self.assertEqual(numbers, [300, 0, GREATEST, 5])

    def test_a_single_0_is_the_number_0(self):
        self.assertEqual(read_number((0,), 0), (0, 1))
        self.assertEqual(read_number((0, 0), 0), (0, 1))
        self.assertEqual(read_number((0, 0), 1), (0, 2))
        self.assertEqual(read_number((128, 0), 1), (0, 2))

    def test_cut_at_the_end_of_the_bytes(self):
        for some in ((), (0,), (5, 6), (255, 1), (128, 128)):
            with self.subTest(some=some):
                with self.assertRaises(Cut):
                    read_number(some, len(some))

    def test_cut_in_the_middle_of_a_number(self):
        for number, told in NUMBERS:
            for many in range(len(told)):
                for ahead in AHEAD:
                    with self.subTest(number=number, many=many, ahead=ahead):
                        with self.assertRaises(Cut):
                            read_number(ahead + told[:many], len(ahead))

    def test_cut_at_places_where_no_bytes_are(self):
        for some, at in (((1, 2), 3), ((), 1), ((1, 2), -1), ((), -1)):
            with self.subTest(some=some, at=at):
                with self.assertRaises(Cut):
                    read_number(some, at)

    def test_bad_form_of_a_0_that_is_not_the_first_byte(self):
        for many in range(1, 6):
            for high in (128, 129, 255):
                for ahead in AHEAD:
                    for behind in BEHIND:
                        with self.subTest(many=many, high=high, ahead=ahead, behind=behind):
                            with self.assertRaises(BadForm):
                                read_number(ahead + (high,) * many + (0,) + behind, len(ahead))

    def test_bad_form_of_a_sixth_byte_above_127(self):
        for sixth in (128, 129, 200, 255):
            for behind in ((), (0,), (1,), (255,)):
                for ahead in AHEAD:
                    with self.subTest(sixth=sixth, behind=behind, ahead=ahead):
                        with self.assertRaises(BadForm):
                            read_number(ahead + (128, 255, 128, 255, 129, sixth) + behind, len(ahead))

    def test_the_refusal_that_is_met_first(self):
        cases = (
            ((128,), Cut),
            ((128, 0), BadForm),
            ((128, 128), Cut),
            ((128, 128, 0), BadForm),
            ((128,) * 5, Cut),
            ((128,) * 5 + (0,), BadForm),
            ((128,) * 6, BadForm),
            ((128,) * 7, BadForm),
            ((255,) * 5, Cut),
            ((255,) * 6, BadForm),
        )
        for some, refusal in cases:
            with self.subTest(some=some):
                with self.assertRaises(refusal):
                    read_number(some, 0)

    def test_each_row_of_bytes_that_is_read_is_what_number_bytes_tells(self):
        for first in range(256):
            for second in range(256):
                with self.subTest(first=first, second=second):
                    self.check_row((first, second))

    def check_row(self, row):
        if row[0] < 128:
            self.assertEqual(read_number(row, 0), (row[0], 1))
        elif row[1] == 0:
            self.assertRaises(BadForm, read_number, row, 0)
        elif row[1] > 127:
            self.assertRaises(Cut, read_number, row, 0)
        else:
            number, behind = read_number(row, 0)
            self.assertEqual((number_bytes(number), behind), (row, 2))


class FixedTest(unittest.TestCase):
    def test_the_very_bytes(self):
        for number, many, told in FIXED:
            with self.subTest(number=number, many=many):
                self.assertEqual(fixed_bytes(number, many), told)

    def test_number_and_place_behind_among_other_bytes(self):
        for number, many, told in FIXED:
            for ahead in AHEAD:
                for behind in BEHIND:
                    with self.subTest(number=number, many=many, ahead=ahead, behind=behind):
                        self.assertEqual(
                            read_fixed(ahead + told + behind, len(ahead), many),
                            (number, len(ahead) + many),
                        )

    def test_all_numbers_of_one_and_two_bytes(self):
        for many in (1, 2):
            for number in range(256 ** many):
                self.assertEqual(read_fixed(fixed_bytes(number, many), 0, many), (number, many))

    def test_cut_where_there_are_fewer_bytes(self):
        for many in range(1, 7):
            for fewer in range(many):
                for ahead in AHEAD:
                    with self.subTest(many=many, fewer=fewer, ahead=ahead):
                        with self.assertRaises(Cut):
                            read_fixed(ahead + (9,) * fewer, len(ahead), many)

    def test_cut_at_places_where_no_bytes_are(self):
        for some, at in (((1, 2), 3), ((), 1), ((1, 2), -1), ((), -1)):
            with self.subTest(some=some, at=at):
                with self.assertRaises(Cut):
                    read_fixed(some, at, 1)


if __name__ == "__main__":
    unittest.main()
