"""Promise 1.2."""

import unittest

from filecrate.sums import sum_changed, sum_joined, sum_of, sum_on

# Each told by hand: the body, its high and its low.
BY_HAND = (
    ((), 0, 1),
    ((0,), 1, 1),
    ((1,), 2, 2),
    ((255,), 256, 256),
    ((0, 0, 0), 3, 1),
    ((1, 2, 3), 2 + 4 + 7, 7),
    ((3, 2, 1), 4 + 6 + 7, 7),
    (tuple(b"Wikipedia"), 4582, 920),
    ((0,) * 1000, 1000, 1),
    # low is 255001, high 1000 + 255 * 500500 = 127628500.
    ((255,) * 1000, 127628500 - 1947 * 65521, 255001 - 3 * 65521),
    # low is 1 + 255 * 256 + 240 = 65521, so that its rest is 0;
    # high is 256 + 255 * (256 * 257 // 2) + 65521 = 8454257.
    ((255,) * 256 + (240,), 8454257 - 129 * 65521, 0),
)

BODIES = (
    (),
    (0,),
    (255,),
    (1, 2, 3, 4, 5),
    (0, 0, 0, 7),
    (255, 0, 255, 0, 255),
    tuple(b"a body of some length, as bodies are"),
    tuple((k * k + 3 * k) % 256 for k in range(300)),
    (255,) * 400,
)

LONGEST = tuple((k * 37 + k // 7) % 256 for k in range(1000))


def walked(body):
    low, high = 1, 0
    for byte in body:
        low = low + byte
        high = high + low
    return high % 65521 * 65536 + low % 65521


def with_byte(body, place, byte):
    return body[:place] + (byte,) + body[place + 1:]


class SumOfTest(unittest.TestCase):
    def test_told_by_hand(self):
        for body, high, low in BY_HAND:
            with self.subTest(body=body[:9], many=len(body)):
                self.assertEqual(sum_of(body), high * 65536 + low)

    def test_numbers_written_out(self):
        self.assertEqual(sum_of(()), 1)
        self.assertEqual(sum_of((0,)), 65537)
        self.assertEqual(sum_of((255,)), 16777472)
        self.assertEqual(sum_of((255,) * 1000), 3874088006)
        self.assertEqual(sum_of(tuple(b"Wikipedia")), 300286872)

    def test_as_walked(self):
        for body in BODIES + (LONGEST,):
            with self.subTest(many=len(body)):
                self.assertEqual(sum_of(body), walked(body))

    def test_each_single_byte(self):
        for byte in range(256):
            self.assertEqual(sum_of((byte,)), (byte + 1) * 65536 + byte + 1)


class SumOnTest(unittest.TestCase):
    def test_every_way_to_cut_a_body_in_two(self):
        for body in BODIES + (LONGEST, (255,) * 1000):
            whole = walked(body)
            for at in range(len(body) + 1):
                self.assertEqual(sum_on(walked(body[:at]), body[at:]), whole, (len(body), at))

    def test_byte_by_byte(self):
        told = sum_of(())
        for byte in LONGEST:
            told = sum_on(told, (byte,))
        self.assertEqual(told, walked(LONGEST))

    def test_no_bytes_more(self):
        for body in BODIES:
            self.assertEqual(sum_on(walked(body), ()), walked(body))


class SumJoinedTest(unittest.TestCase):
    def test_both_orders(self):
        for one in BODIES:
            for other in BODIES:
                with self.subTest(one=one[:9], other=other[:9]):
                    self.assertEqual(sum_joined(walked(one), walked(other), len(other)), walked(one + other))
                    self.assertEqual(sum_joined(walked(other), walked(one), len(one)), walked(other + one))

    def test_an_empty_body_on_either_side(self):
        for body in BODIES + (LONGEST, (255,) * 1000):
            with self.subTest(many=len(body)):
                self.assertEqual(sum_joined(1, walked(body), len(body)), walked(body))
                self.assertEqual(sum_joined(walked(body), 1, 0), walked(body))

    def test_every_way_to_cut_a_body_in_two(self):
        for body in (LONGEST, (255,) * 1000):
            for at in range(len(body) + 1):
                told = sum_joined(walked(body[:at]), walked(body[at:]), len(body) - at)
                self.assertEqual(told, walked(body), at)

    def test_two_bodies_of_the_most_bytes(self):
        full = (255,) * 1000
        for one, other in ((full, full), (full, LONGEST), (LONGEST, full), (LONGEST, LONGEST)):
            self.assertEqual(sum_joined(walked(one), walked(other), 1000), walked(one + other))

    def test_the_low_of_the_first_one_is_0(self):
        one = (255,) * 256 + (240,)
        for other in BODIES:
            self.assertEqual(sum_joined(walked(one), walked(other), len(other)), walked(one + other))


class SumChangedTest(unittest.TestCase):
    def test_each_place(self):
        for body in BODIES:
            for place, old in enumerate(body):
                for new in (0, 1, 127, 128, 254, 255, old):
                    told = sum_changed(walked(body), len(body), place, old, new)
                    self.assertEqual(told, walked(with_byte(body, place, new)), (len(body), place, new))

    def test_each_place_of_a_body_of_the_most_bytes(self):
        for body in (LONGEST, (255,) * 1000, (0,) * 1000):
            for place in range(0, 1000, 27):
                for new in (0, 255):
                    told = sum_changed(walked(body), 1000, place, body[place], new)
                    self.assertEqual(told, walked(with_byte(body, place, new)), (place, new))
            for place in (0, 999):
                told = sum_changed(walked(body), 1000, place, body[place], 9)
                self.assertEqual(told, walked(with_byte(body, place, 9)), place)

    def test_the_byte_stays_as_it_is(self):
        for body in BODIES:
            for place, old in enumerate(body):
                self.assertEqual(sum_changed(walked(body), len(body), place, old, old), walked(body))

    def test_the_low_comes_to_65521_and_goes_back(self):
        body, other = (255,) * 256 + (239,), (255,) * 256 + (240,)
        self.assertEqual(sum_changed(walked(body), 257, 256, 239, 240), walked(other))
        self.assertEqual(sum_changed(walked(other), 257, 256, 240, 239), walked(body))


class AnotherSumTest(unittest.TestCase):
    def test_one_byte_is_another_one(self):
        for body in (BODIES[3], BODIES[4], BODIES[5], tuple(b"abc")):
            for place, old in enumerate(body):
                for new in range(256):
                    alike = sum_of(with_byte(body, place, new)) == sum_of(body)
                    self.assertEqual(alike, new == old, (body, place, new))

    def test_one_byte_is_another_one_in_a_body_of_the_most_bytes(self):
        for body in (LONGEST, (255,) * 1000):
            for place in range(1000):
                new = (body[place] + 1 + place % 255) % 256
                self.assertNotEqual(sum_of(with_byte(body, place, new)), sum_of(body), place)

    def test_two_unlike_neighbours_change_places(self):
        for body in BODIES + (LONGEST,):
            for place in range(len(body) - 1):
                one, other = body[place], body[place + 1]
                turned = body[:place] + (other, one) + body[place + 2:]
                self.assertEqual(sum_of(turned) == sum_of(body), one == other, (len(body), place))


if __name__ == "__main__":
    unittest.main()
