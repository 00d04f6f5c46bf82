"""Promises 5.1, 5.2 and 0.2 (e)."""

import itertools
import random
import unittest

import by_hand
from by_hand import check, checked, fixed, number

from filecrate.errors import BadVolume, Missing, NotTogether
from filecrate.volumes import joined, said, shared

BYTES = tuple(random.Random(50).choices(range(256), k=20000))

# Bytes and most; the last body is whole, short or the only one.
CASES = (
    ((7,), 1), ((7,), 2), ((7,), 1000), ((0, 0, 0), 1), ((1, 2, 3), 2), ((1, 2, 3), 3), ((1, 2, 3), 4), ((1, 2, 3, 4), 2),
    (tuple(range(10)), 3), (tuple(range(12)), 3), (BYTES[:300], 7), (BYTES[:300], 127), (BYTES[:300], 128), (BYTES[:300], 299),
    (BYTES[:300], 300), (BYTES[:300], 301), (BYTES[:1999], 1000), (BYTES[:2000], 1000), (BYTES[:60], 1),
)


def parts_of(volume):
    """Number, most, how many, their check and the body, read by hand."""
    reader = by_hand.Reader(volume, 2)
    told = [reader.number(), reader.number(), reader.number(), reader.fixed(2)]
    return told + [volume[reader.at:-2]]


def with_parts(volume, **other):
    """The volume with other parts and its check set right."""
    parts = dict(zip(("numbered", "most", "total", "whole_check", "body"), parts_of(volume)))
    parts.update(other)
    return by_hand.volume(**parts)


class SharedTest(unittest.TestCase):
    def test_the_bytes_written_out(self):
        told = check((1, 2, 3))
        high, low = divmod(told, 256)
        self.assertEqual(shared((1, 2, 3), 2), (
            checked((70, 86, 0, 2, 3, high, low, 1, 2)),
            checked((70, 86, 1, 2, 3, high, low, 3)),
            checked((70, 86, 2, 2, 3, high, low, 2, 2)),
        ))
        self.assertEqual(shared((1, 2, 3), 2)[0], (70, 86, 0, 2, 3, 173, 173, 1, 2, 12, 80))

    def test_the_bytes_by_hand(self):
        for some, most in CASES:
            with self.subTest(many=len(some), most=most):
                self.assertEqual(shared(some, most), by_hand.volumes(some, most))

    def test_numbers_of_several_bytes(self):
        volumes = shared(BYTES, 100)
        self.assertEqual(len(volumes), 201)
        self.assertEqual(volumes[150][:8], (70, 86, 150, 1, 100, 160, 156, 1))
        self.assertEqual(volumes, by_hand.volumes(BYTES, 100))

    def test_the_spare_one_has_the_bits_of_an_odd_number(self):
        volumes = shared((1, 3, 7, 15, 31), 2)
        self.assertEqual([parts_of(volume)[4] for volume in volumes], [(1, 3), (7, 15), (31,), (25, 12)])

    def test_the_only_body_and_the_spare_one_are_alike(self):
        one, spare = shared((5, 6, 7), 1000)
        self.assertEqual([parts_of(one)[0], parts_of(spare)[0]], [0, 1])
        self.assertEqual(parts_of(one)[1:], parts_of(spare)[1:])

    def test_a_little_beyond_the_limits_nothing_is_refused(self):
        self.assertEqual(shared(BYTES[:30], 1001), by_hand.volumes(BYTES[:30], 1001))
        self.assertEqual(len(shared(BYTES + (1,), 1000)), 22)
        self.assertEqual(len(shared((), 5)), 1)
        self.assertEqual(len(shared((1, 2), 0)), 3)


class SaidTest(unittest.TestCase):
    def test_said(self):
        for some, most in CASES:
            volumes = shared(some, most)
            with self.subTest(many=len(some), most=most):
                self.assertEqual([said(volume) for volume in volumes], [(k, len(volumes) - 1) for k in range(len(volumes))])

    def test_how_many_there_are(self):
        for many, most, told in ((1, 1, 1), (1, 1000, 1), (1000, 1000, 1), (1001, 1000, 2), (20000, 1000, 20), (6, 3, 2), (7, 3, 3)):
            with self.subTest(many=many, most=most):
                self.assertEqual(said(shared(BYTES[:many], most)[0]), (0, told))
        self.assertEqual(said(shared(BYTES[:200], 1)[200]), (200, 200))


class JoinedTest(unittest.TestCase):
    def test_all_of_them(self):
        for some, most in CASES:
            with self.subTest(many=len(some), most=most):
                self.assertEqual(joined(shared(some, most)), some)

    def test_any_one_left_out(self):
        for some, most in CASES:
            volumes = shared(some, most)
            for out in range(len(volumes)):
                with self.subTest(many=len(some), most=most, out=out):
                    self.assertEqual(joined(volumes[:out] + volumes[out + 1:]), some)

    def test_any_order(self):
        volumes = shared((1, 2, 3, 4, 5, 6, 7), 3)
        for many in (3, 4):
            for some in itertools.permutations(volumes, many):
                self.assertEqual(joined(some), (1, 2, 3, 4, 5, 6, 7))

    def test_any_order_of_many(self):
        dice = random.Random(51)
        volumes = shared(BYTES, 1000)
        for out in (0, 10, 19, 20):
            some = list(volumes[:out] + volumes[out + 1:])
            dice.shuffle(some)
            self.assertEqual(joined(tuple(some)), BYTES)

    def test_one_said_twice(self):
        volumes = shared((1, 2, 3, 4, 5), 2)
        for twice in volumes:
            self.assertEqual(joined(volumes + (twice,)), (1, 2, 3, 4, 5))
            self.assertEqual(joined((twice,) + volumes[:3]), (1, 2, 3, 4, 5))
        self.assertEqual(joined((volumes[0], volumes[3], volumes[1]) * 3), (1, 2, 3, 4, 5))

    def test_the_spare_one_alone_tells_a_single_body(self):
        for some in ((9,), (1, 2, 3)):
            volumes = shared(some, 3)
            self.assertEqual(joined(volumes[:1]), some)
            self.assertEqual(joined(volumes[1:]), some)

    def test_bodies_of_one_byte(self):
        volumes = shared(BYTES[:1500], 1)
        self.assertEqual(joined(volumes[:700] + volumes[701:]), BYTES[:1500])

    def test_a_spare_one_that_is_not_needed_counts_for_nothing(self):
        volumes = shared((1, 2, 3, 4, 5), 2)
        other = with_parts(volumes[3], body=(0, 0))
        self.assertEqual(joined(volumes[:3] + (other,)), (1, 2, 3, 4, 5))


class BadVolumeTest(unittest.TestCase):
    def check_refused(self, volume, **told):
        good = shared((1, 2, 3, 4, 5), 2)
        with self.subTest(**told):
            with self.assertRaises(BadVolume):
                said(volume)
            for volumes in ((volume,), (volume,) + good, good + (volume,), good[:2] + (volume,) + good[2:], (volume, volume)):
                with self.assertRaises(BadVolume):
                    joined(volumes)

    def test_right_ones(self):
        for volume in shared((1, 2, 3, 4, 5), 2):
            self.assertEqual(with_parts(volume), volume)
            self.assertEqual(said(volume)[1], 3)

    def test_no_bytes(self):
        right = shared((1, 2), 2)[1]
        self.assertEqual(right[2], 1)
        for thing in (None, 5, "FV", [], list(right), (right,), right[:2] + (True,) + right[3:], right[:2] + (None,) + right[3:]):
            self.check_refused(thing, thing=str(thing))

    def test_numbers_that_are_no_bytes(self):
        right = shared((1, 2), 2)[1]
        for at in range(len(right)):
            for byte in (-1, right[at] + 256, right[at] - 256):
                self.check_refused(right[:at] + (byte,) + right[at + 1:], at=at)

    def test_cut_or_with_bytes_behind(self):
        for volume in shared((1, 2, 3, 4, 5), 2):
            for many in range(len(volume)):
                self.check_refused(volume[:many], many=many)
            self.check_refused(volume + (0,), of=volume)
            self.check_refused(volume + volume, of=volume)
            self.check_refused(checked(volume), of=volume)

    def test_cut_with_its_check_set_right(self):
        for volume in shared((1, 2, 3, 4, 5), 2):
            for many in range(len(volume) - 2):
                self.check_refused(checked(volume[:many]), many=many)

    def test_another_head(self):
        rest = shared((1, 2, 3), 2)[0][2:-2]
        for head in ((71, 86), (70, 87), (70, 67), (86, 70), (70,), (), (70, 86, 70, 86), (0, 70, 86)):
            self.check_refused(checked(head + rest), head=head)

    def test_numbers_out_of_their_limits(self):
        for most in (0, 1001, 1002, 4398046511103):
            self.check_refused(by_hand.volume(0, most, 1, 0, (5,)), most=most)
            self.check_refused(by_hand.volume(0, most, 1500, 0, (5,) * 1001), most=most)
            self.check_refused(by_hand.volume(0, most, 1001, 0, (5,) * 1001), most=most)
        for total in (0, 20001, 20002, 4398046511103):
            for body in ((), (5,), (5,) * 1000):
                self.check_refused(by_hand.volume(0, 1000, total, 0, body), total=total)
        self.assertEqual(said(by_hand.volume(0, 1000, 20000, 0, (5,) * 1000)), (0, 20))
        self.assertEqual(said(by_hand.volume(20000, 1, 20000, 0, (5,))), (20000, 20000))
        self.assertEqual(said(by_hand.volume(1, 1000, 1, 0, (5,))), (1, 1))

    def test_a_number_behind_the_spare_one(self):
        for numbered in (4, 5, 127, 128, 4398046511103):
            for body in ((), (5,), (5, 6)):
                self.check_refused(by_hand.volume(numbered, 2, 5, 0, body), numbered=numbered, body=body)

    def test_a_number_behind_the_spare_one_where_a_body_of_fewer_than_no_bytes_would_fit(self):
        # By reckoning alone these would have a body of one byte or two below none, and the check would be right.
        self.check_refused(checked((70, 86, 3, 2, 4)))
        for byte in (0, 5, 255):
            self.check_refused(checked((70, 86, 6, 1, 5, byte)), byte=byte)

    def test_numbers_that_are_not_as_few_bytes_as_can_be(self):
        for numbers in ((129, 0, 2, 5), (1, 130, 0, 5), (1, 2, 133, 0)):
            self.check_refused(checked((70, 86) + numbers + (0, 0, 5, 5)), numbers=numbers)
        self.assertEqual(said(checked((70, 86, 1, 2, 5, 0, 0, 5, 5))), (1, 3))

    def test_bodies_of_another_length(self):
        for numbered, right in ((0, 2), (1, 2), (2, 1), (3, 2)):
            for many in range(5):
                volume = by_hand.volume(numbered, 2, 5, 0, (5,) * many)
                if many == right:
                    self.assertEqual(said(volume), (numbered, 3))
                else:
                    self.check_refused(volume, numbered=numbered, many=many)

    def test_the_only_body_and_its_spare_one_of_another_length(self):
        for numbered in (0, 1):
            self.assertEqual(said(by_hand.volume(numbered, 9, 5, 0, (5,) * 5)), (numbered, 1))
            for many in (0, 4, 6, 9):
                self.check_refused(by_hand.volume(numbered, 9, 5, 0, (5,) * many), many=many)

    def test_a_wrong_check(self):
        for volume in shared((1, 2, 3, 4, 5), 2):
            for wrong in (volume[:-3], volume[2:-2], volume[-5:-2], ()):
                self.check_refused(volume[:-2] + fixed(check(wrong), 2), of=volume)
            self.check_refused(volume[:-2] + (volume[-1], volume[-2]), of=volume)

    def test_bytes_changed(self):
        dice = random.Random(52)
        for volume in shared((1, 2, 3, 4, 5), 2):
            for at in range(len(volume)):
                for _ in range(40):
                    two = (dice.randrange(256), dice.randrange(256))[:len(volume) - at]
                    if two != volume[at:at + 2]:
                        with self.assertRaises(BadVolume):
                            said(volume[:at] + two + volume[at + 2:])
                for byte in range(256):
                    if byte != volume[at]:
                        with self.assertRaises(BadVolume):
                            said(volume[:at] + (byte,) + volume[at + 1:])


class TogetherTest(unittest.TestCase):
    def setUp(self):
        self.volumes = shared((1, 2, 3, 4, 5, 6, 7), 2)

    def check_not_together(self, volumes, **told):
        for some in (volumes, volumes[::-1]):
            with self.subTest(**told):
                with self.assertRaises(NotTogether):
                    joined(some)

    def test_none(self):
        with self.assertRaises(NotTogether):
            joined(())

    def test_unlike_in_most(self):
        other = with_parts(self.volumes[3], most=3, numbered=2)
        self.assertEqual(said(other), (2, 3))
        self.check_not_together(self.volumes + (other,))
        self.check_not_together((self.volumes[0], other))
        # The same most but for one whose body would be as long.
        other = by_hand.volume(0, 9, 7, check((1, 2, 3, 4, 5, 6, 7)), (1, 2, 3, 4, 5, 6, 7))
        self.assertEqual(said(other), (0, 1))
        self.check_not_together((other,) + self.volumes)
        self.check_not_together((other, with_parts(other, most=8)))

    def test_unlike_in_how_many_bytes(self):
        other = with_parts(self.volumes[0], total=8)
        self.check_not_together(self.volumes + (other,))
        self.check_not_together(self.volumes[1:] + (other,))
        self.check_not_together((self.volumes[0], other))

    def test_unlike_in_their_check(self):
        whole = parts_of(self.volumes[0])[3]
        for turn in (1, 256, 32768):
            for at in range(5):
                other = with_parts(self.volumes[at], whole_check=whole ^ turn)
                self.check_not_together(self.volumes + (other,), turn=turn, at=at)
                self.check_not_together(self.volumes[:at] + (other,) + self.volumes[at + 1:], turn=turn, at=at)

    def test_of_one_number_and_not_alike(self):
        for at in range(5):
            body = parts_of(self.volumes[at])[4]
            other = with_parts(self.volumes[at], body=(body[0] ^ 1,) + body[1:])
            self.check_not_together(self.volumes + (other,), at=at)
            self.check_not_together((other, self.volumes[at]), at=at)

    def test_what_comes_has_another_check(self):
        for at in range(5):
            body = parts_of(self.volumes[at])[4]
            other = with_parts(self.volumes[at], body=(body[0] ^ 1,) + body[1:])
            volumes = self.volumes[:at] + (other,) + self.volumes[at + 1:]
            if at < 4:
                self.check_not_together(volumes, at=at)
                self.check_not_together(volumes[:4], at=at)
            for out in range(4):
                if out != at:
                    self.check_not_together(volumes[:out] + volumes[out + 1:], at=at, out=out)

    def test_all_have_the_same_other_check(self):
        whole = parts_of(self.volumes[0])[3]
        volumes = tuple(with_parts(volume, whole_check=whole ^ 4) for volume in self.volumes)
        self.check_not_together(volumes)
        self.check_not_together(volumes[1:])

    def test_volumes_of_other_bytes(self):
        other = shared((1, 2, 3, 4, 5, 6, 8), 2)
        self.check_not_together(self.volumes[:2] + other[2:])


class MissingTest(unittest.TestCase):
    def missing(self, volumes):
        with self.assertRaises(Missing) as caught:
            joined(volumes)
        self.assertIs(type(caught.exception.numbers), tuple)
        return caught.exception.numbers

    def test_each_choice_of_volumes(self):
        some = (1, 2, 3, 4, 5, 6, 7)
        volumes = shared(some, 2)
        for many in range(1, 6):
            for kept in itertools.combinations(range(5), many):
                lacking = tuple(k for k in range(4) if k not in kept)
                told = tuple(volumes[k] for k in kept)
                with self.subTest(kept=kept):
                    if len(lacking) > 1 or (lacking and 4 not in kept):
                        self.assertEqual(self.missing(told), lacking)
                        self.assertEqual(self.missing(told[::-1]), lacking)
                        self.assertEqual(self.missing(told + told), lacking)
                    else:
                        self.assertEqual(joined(told), some)

    def test_many_missing(self):
        volumes = shared(BYTES[:300], 1)
        self.assertEqual(self.missing(volumes[299:]), tuple(range(299)))
        self.assertEqual(self.missing(volumes[300:]), tuple(range(300)))
        self.assertEqual(self.missing(volumes[:299]), (299,))
        self.assertEqual(self.missing(volumes[:5] + volumes[6:100] + volumes[101:]), (5, 100))

    def test_the_spare_one_alone(self):
        self.assertEqual(self.missing(shared((1, 2, 3), 1)[3:]), (0, 1, 2))


class OrderTest(unittest.TestCase):
    def setUp(self):
        self.volumes = shared((1, 2, 3, 4, 5, 6, 7), 2)
        self.other = shared((1, 2, 3, 4, 5, 6, 8), 2)

    def test_bad_volume_ahead_of_not_together(self):
        for bad in ((), (70, 86), self.volumes[0][:-1]):
            for volumes in ((self.volumes[0], self.other[1], bad), (bad, self.volumes[0], self.other[1])):
                with self.assertRaises(BadVolume):
                    joined(volumes)

    def test_bad_volume_ahead_of_missing(self):
        with self.assertRaises(BadVolume):
            joined((self.volumes[0], ()))

    def test_not_together_ahead_of_missing(self):
        body = parts_of(self.volumes[0])[4]
        unlike = with_parts(self.volumes[0], body=(body[0] ^ 1,) + body[1:])
        for second in (self.other[0], self.other[1], unlike):
            for volumes in ((self.volumes[0], second), (second, self.volumes[0])):
                with self.assertRaises(NotTogether):
                    joined(volumes)

    def test_missing_ahead_of_another_check(self):
        spoilt = tuple(with_parts(volume, whole_check=9) for volume in self.volumes)
        with self.assertRaises(NotTogether):
            joined(spoilt)
        with self.assertRaises(Missing):
            joined(spoilt[2:])

    def test_numbers_of_volumes_told_as_numbers(self):
        self.assertEqual(number(2), self.volumes[2][2:3])


if __name__ == "__main__":
    unittest.main()
