"""Promise 1.3."""

import unittest

from filecrate.checks import check_of, check_on

ROWS = (
    (),
    (0,),
    (1,),
    (128,),
    (255,),
    (0, 0, 0),
    (255, 255),
    tuple(b"123456789"),
    tuple(range(256)),
    tuple((k * k + 5 * k) % 256 for k in range(200)),
)

MOST = tuple((k * 41 + k // 9) % 256 for k in range(20000))


def walked(some):
    """The walk bit by bit, as the point tells it."""
    mark = 65535
    for byte in some:
        for bit in f"{byte:08b}":
            highest = "1" if mark >= 32768 else "0"
            mark = mark * 2
            if mark >= 65536:
                mark -= 65536
            if bit != highest:
                for turned in (12, 5, 0):
                    mark ^= 1 << turned
    return mark


class CheckOfTest(unittest.TestCase):
    def test_numbers_written_out(self):
        self.assertEqual(check_of(()), 65535)
        self.assertEqual(check_of((0,)), 57840)
        self.assertEqual(check_of((255,)), 65280)
        self.assertEqual(check_of(tuple(b"A")), 47381)
        self.assertEqual(check_of(tuple(b"123456789")), 10673)

    def test_as_walked(self):
        for some in ROWS + (MOST,):
            with self.subTest(some=some[:9], many=len(some)):
                self.assertEqual(check_of(some), walked(some))

    def test_each_single_byte(self):
        for byte in range(256):
            self.assertEqual(check_of((byte,)), walked((byte,)), byte)


class CheckOnTest(unittest.TestCase):
    def test_every_way_to_cut_the_bytes_in_two(self):
        for some in ROWS:
            for at in range(len(some) + 1):
                self.assertEqual(check_on(walked(some[:at]), some[at:]), walked(some), (len(some), at))

    def test_byte_by_byte(self):
        told = check_of(())
        for byte in MOST:
            told = check_on(told, (byte,))
        self.assertEqual(told, walked(MOST))

    def test_no_bytes_more(self):
        for mark in (0, 1, 32767, 32768, 65535):
            self.assertEqual(check_on(mark, ()), mark)


class AnotherCheckTest(unittest.TestCase):
    def test_one_byte_is_another_one(self):
        for some in ((0,), (7, 0, 255), tuple(b"crate")):
            for place, old in enumerate(some):
                for new in range(256):
                    other = some[:place] + (new,) + some[place + 1:]
                    self.assertEqual(check_of(other) == check_of(some), new == old, (some, place, new))

    def test_two_neighbouring_bytes_are_others(self):
        some = (200, 17, 64)
        told = check_of(some)
        alike = [pair for pair in self.pairs() if check_of(pair + some[2:]) == told]
        self.assertEqual(alike, [(200, 17)])

    def test_two_neighbouring_bytes_are_others_among_many(self):
        some = MOST[:600]
        told = check_of(some)
        for place in range(len(some) - 1):
            one = (some[place] + 1 + place % 255) % 256
            two = (some[place + 1] + 1 + place % 254) % 256
            self.assertNotEqual(check_of(some[:place] + (one, two) + some[place + 2:]), told, place)

    def pairs(self):
        return [(one, two) for one in range(256) for two in range(256)]


if __name__ == "__main__":
    unittest.main()
