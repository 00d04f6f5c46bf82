"""Promises 2.1, 2.2, 2.3, and 0.2 (c)."""

import heapq
import itertools
import random
import unittest

from filecrate.errors import BadForm
from filecrate.pressing import best_kind, pressed, unpressed

KINDS = (0, 1, 2)


def drawn(seed, many, choice):
    """A body of many bytes, drawn from these, the same one each time."""
    source = random.Random(seed)
    return tuple(source.choice(choice) for k in range(many))


def rarely(seed, many):
    """A body of long runs."""
    source = random.Random(seed)
    return tuple(0 if source.random() < 0.97 else source.randrange(3) for k in range(many))


LENGTHS = (1, 2, 3, 4, 5, 7, 8, 9, 15, 16, 17, 60, 127, 128, 129, 130, 131, 132, 133, 255, 256, 257, 258, 300, 999, 1000)

SHORT = (
    ((),)
    + tuple((byte,) for byte in (0, 1, 127, 128, 254, 255))
    + tuple(body for many in (2, 3, 4, 5, 6, 7) for body in itertools.product((0, 200), repeat=many))
    + tuple(body for many in (3, 4, 5) for body in itertools.product((5, 6, 255), repeat=many))
    + tuple(drawn(many, many, (1, 2)) for many in range(8, 60))
    + tuple(drawn(many, many, (1, 2, 3)) for many in range(8, 60))
    + tuple(drawn(many, many, (0, 1, 7, 128, 255)) for many in range(8, 60))
    + tuple(drawn(many, many, range(256)) for many in range(8, 60, 5))
    + tuple((9,) * many for many in range(2, 60))
)

LONG = (
    tuple((77,) * many for many in LENGTHS)
    + tuple(drawn(many, many, choice) for many in LENGTHS for choice in ((3, 4), (0, 9, 255), (1, 2, 3, 4, 5), range(256)))
    + tuple(tuple(range(many)) for many in (10, 127, 128, 129, 255, 256))
    + tuple(tuple(k % period for k in range(1000)) for period in (2, 3, 100, 250, 255, 256))
    + tuple(rarely(seed, 1000) for seed in range(5))
    + tuple(drawn(seed, 1000, (0,) * 500 + (1,) * 100 + (2,) * 20 + tuple(range(3, 30))) for seed in range(5))
)


def fewest_of_deeds(body):
    """How many bytes the shortest row of deeds has: by a table, from each place on every deed that can stand there."""
    table = [0] + [2 * len(body) + 2] * len(body)
    for at in range(len(body)):
        for n in range(128):
            behind = at + n + 1
            if behind <= len(body):
                table[behind] = min(table[behind], table[at] + n + 2)
        for d in range(256):
            alike = 0
            while at - d - 1 >= 0 and alike < 130 and at + alike < len(body) and body[at + alike] == body[at + alike - d - 1]:
                alike += 1
                if alike >= 3:
                    table[at + alike] = min(table[at + alike], table[at] + 2)
    return table[len(body)]


def number_length(n):
    return 1 if n < 128 else 1 + number_length(n // 128)


def fewest_of_words(body):
    """How many bytes the head and the words have if always the two rarest are put together."""
    rows = [body.count(byte) for byte in set(body)]
    bits = len(body) if len(rows) == 1 else 0
    heapq.heapify(rows)
    while len(rows) > 1:
        both = heapq.heappop(rows) + heapq.heappop(rows)
        bits += both
        heapq.heappush(rows, both)
    unlike = len(set(body))
    return number_length(unlike) + 2 * unlike + number_length(len(body)) + (bits + 7) // 8


def words_told(some):
    """The body of bytes of kind 2 that are right, read as the point tells it, with the words as texts."""
    def number(at):
        worth, n = 1, 0
        while some[at] > 127:
            n, worth, at = n + (some[at] - 128) * worth, worth * 128, at + 1
        return n + some[at] * worth, at + 1

    many, at = number(0)
    rows = sorted((some[at + 2 * k + 1], some[at + 2 * k]) for k in range(many))
    left, at = number(at + 2 * many)
    words, ahead = {}, None
    for length, byte in rows:
        worth = 0 if ahead is None else (int(ahead, 2) + 1) * 2 ** (length - len(ahead))
        ahead = bin(worth)[2:].zfill(length)
        words[ahead] = byte
    bits = "".join(f"{byte:08b}" for byte in some[at:])
    body, word = [], ""
    for place, bit in enumerate(bits):
        if left == len(body):
            assert len(bits) - place < 8 and "1" not in bits[place:]
            break
        word += bit
        if word in words:
            body.append(words[word])
            word = ""
    assert left == len(body) and word == ""
    return tuple(body)


class ToldAgainTest(unittest.TestCase):
    def test_kind_0_is_the_body(self):
        for body in SHORT + LONG:
            self.assertEqual(pressed(0, body), body)
            self.assertEqual(unpressed(0, body), body)

    def test_unpressed_of_pressed_is_the_body(self):
        for kind in KINDS:
            for body in SHORT + LONG:
                with self.subTest(kind=kind, body=body[:20], many=len(body)):
                    self.assertEqual(unpressed(kind, pressed(kind, body)), body)

    def test_each_byte_alone(self):
        for kind in KINDS:
            for byte in range(256):
                for body in ((byte,), (byte,) * 9):
                    self.assertEqual(unpressed(kind, pressed(kind, body)), body)

    def test_what_is_pressed_is_bytes(self):
        for kind in KINDS:
            for body in SHORT + LONG:
                some = pressed(kind, body)
                self.assertIs(type(some), tuple)
                self.assertTrue(all(type(byte) is int and 0 <= byte <= 255 for byte in some))

    def test_the_words_are_as_the_point_tells(self):
        for body in SHORT + LONG:
            with self.subTest(body=body[:20], many=len(body)):
                self.assertEqual(words_told(pressed(2, body)), body)

    def test_somewhat_more_than_1000_bytes_are_pressed_without_a_refusal(self):
        body = drawn(1, 1003, (1, 2, 3))
        self.assertEqual(pressed(0, body), body)
        self.assertEqual(len(pressed(1, body)), fewest_of_deeds(body))
        self.assertEqual(words_told(pressed(2, body)), body)
        self.assertEqual(best_kind(body), 2)


class FewestOfDeedsTest(unittest.TestCase):
    def test_short_bodies(self):
        for body in SHORT:
            with self.subTest(body=body):
                self.assertEqual(len(pressed(1, body)), fewest_of_deeds(body))

    def test_long_bodies(self):
        bodies = [drawn(many, many, choice) for many in (256, 300, 1000) for choice in ((3, 4), (0, 9, 255), range(9))]
        bodies += [rarely(seed, 300) for seed in range(6)]
        bodies += [(77,) * many for many in (130, 131, 132, 133, 134, 260, 261, 262, 263, 264)]
        bodies += [drawn(seed, 40, (1, 2)) * 6 for seed in range(6)]
        bodies += [drawn(seed, 140, range(256)) * 2 + drawn(seed, 60, (1, 2)) for seed in range(4)]
        for body in bodies:
            with self.subTest(body=body[:20], many=len(body)):
                self.assertEqual(len(pressed(1, body)), fewest_of_deeds(body))

    def test_bodies_in_which_one_deed_too_many_is_easily_done(self):
        for body, many in (
            ((0, 1, 0, 1, 1, 1, 1, 1, 0, 1, 0, 1, 0, 0, 1, 1, 1, 1, 0, 1), 14),
            ((1, 1, 1, 0, 1, 1, 1, 1, 0, 1, 1, 0, 0, 1, 1, 1, 0, 1, 1, 0, 1), 15),
            ((0, 0, 1, 0, 1, 1, 1, 1, 1, 0, 1, 1, 1, 0, 0, 0, 1, 1, 0, 1, 0, 1, 1), 17),
            ((1, 0, 1, 1, 0, 2, 2, 0, 2, 1, 0, 1, 1, 0, 1, 2, 1, 0, 2, 2, 0, 2, 0, 1, 2, 0), 21),
        ):
            with self.subTest(body=body):
                self.assertEqual(fewest_of_deeds(body), many)
                self.assertEqual(len(pressed(1, body)), many)

    def test_many_drawn_bodies(self):
        for seed in range(3000):
            body = drawn(seed, 8 + seed % 25, range(2 + seed % 4))
            self.assertEqual(len(pressed(1, body)), fewest_of_deeds(body), body)

    def test_numbers_told_by_hand(self):
        for body, many in (
            ((), 0),
            ((5,), 2),
            ((5, 6, 7), 4),
            # One new byte and a copy of all others, of 3 to 130 bytes.
            ((5,) * 4, 4),
            ((5,) * 131, 4),
            ((5,) * 132, 5),
            ((5,) * 133, 6),
            (tuple(range(128)), 129),
            (tuple(range(129)), 131),
            # The byte 256 places ahead can be copied, the one 257 ahead can not.
            (tuple(range(256)) + tuple(range(10)), 260),
            (tuple(range(256)) + (255,) + tuple(range(10)), 270),
            # The longest copy, 1 2 3 4, would leave 9 and 8, which cost three bytes: 1 2 3 and 4 9 8 cost four together.
            ((4, 9, 8, 0, 1, 2, 3, 4, 5, 1, 2, 3, 4, 9, 8), 14),
        ):
            with self.subTest(body=body[:20], many=len(body)):
                self.assertEqual(len(pressed(1, body)), many)

    def test_no_row_of_few_bytes_tells_what_longer_ones_were_made_for(self):
        for many in range(7):
            for some in itertools.product((0, 1, 2, 128, 129, 255), repeat=many):
                try:
                    body = unpressed(1, some)
                except BadForm:
                    continue
                self.assertLessEqual(len(pressed(1, body)), many, some)


class FewestOfWordsTest(unittest.TestCase):
    def test_the_two_rarest_put_together(self):
        for body in SHORT + LONG:
            with self.subTest(body=body[:20], many=len(body)):
                self.assertEqual(len(pressed(2, body)), fewest_of_words(body))

    def test_numbers_told_by_hand(self):
        for body, many in (
            ((), 2),
            ((5,), 5),
            ((5,) * 8, 5),
            ((5,) * 9, 6),
            ((5, 6), 7),
            # Words of one, two and two bits.
            ((1, 1, 2, 3), 1 + 6 + 1 + 1),
            # 128 unlike bytes, words of seven bits.
            (tuple(range(128)), 2 + 256 + 2 + 112),
            (tuple(range(256)), 2 + 512 + 2 + 256),
            # The longest words have 12 bits; 2 + 4 + 7 + 12 + 20 + 33 + 54 + 88 + 143 + 232 + 376 + 609 = 1580 bits.
            (tuple(b for b, k in enumerate((1, 1, 2, 3, 5, 8, 13, 21, 34, 55, 89, 144, 233)) for j in range(k)), 29 + 198),
        ):
            with self.subTest(body=body[:20], many=len(body)):
                self.assertEqual(len(pressed(2, body)), many)

    def test_no_other_lengths_of_words_are_better(self):
        choices = {
            many: [row for row in itertools.product(range(1, 6), repeat=many) if sum(32 >> k for k in row) == 32]
            for many in (2, 3, 4, 5)
        }
        for counts in itertools.product((0, 1, 2, 4, 9, 30), repeat=4):
            body = tuple(byte for byte, many in enumerate(counts) for k in range(many))
            used = [many for many in counts if many]
            sizes = []
            for many in choices:
                if many >= len(used):
                    # Words of bytes that are not in the body may be there as well.
                    padded = used + [0] * (many - len(used))
                    bits = min(sum(a * b for a, b in zip(padded, row)) for row in choices[many])
                    sizes.append(1 + 2 * many + number_length(len(body)) + (bits + 7) // 8)
            self.assertLessEqual(len(pressed(2, body)), min(sizes), counts)

    def test_no_row_of_few_bytes_tells_what_longer_ones_were_made_for(self):
        for many in range(8):
            for some in itertools.product((0, 1, 2, 3), repeat=many):
                try:
                    body = unpressed(2, some)
                except BadForm:
                    continue
                self.assertLessEqual(len(pressed(2, body)), many, some)


class UnpressedTest(unittest.TestCase):
    def check_all(self, kind, rows):
        for some, body in rows:
            with self.subTest(kind=kind, some=some[:20]):
                self.assertEqual(unpressed(kind, some), body)

    def check_refused(self, kind, rows):
        for some in rows:
            with self.subTest(kind=kind, some=some[:20]):
                with self.assertRaises(BadForm):
                    unpressed(kind, some)

    def test_deeds(self):
        self.check_all(1, (
            ((), ()),
            ((0, 9), (9,)),
            ((2, 9, 8, 7), (9, 8, 7)),
            ((127,) + tuple(range(128)), tuple(range(128))),
            ((0, 9, 0, 8), (9, 8)),
            # Copies of what this deed brought.
            ((0, 9, 128, 0), (9,) * 4),
            ((0, 9, 255, 0), (9,) * 131),
            ((1, 9, 8, 130, 1), (9, 8, 9, 8, 9, 8, 9)),
            ((3, 1, 2, 3, 4, 128, 3), (1, 2, 3, 4, 1, 2, 3)),
            ((3, 1, 2, 3, 4, 128, 2, 128, 6), (1, 2, 3, 4, 2, 3, 4, 1, 2, 3)),
            ((127,) + tuple(range(128)) + (127,) + tuple(range(128, 256)) + (128, 255), tuple(range(256)) + (0, 1, 2)),
            # Longer than need be, but deeds all the same.
            ((0, 1, 0, 1, 0, 1, 0, 1, 0, 1), (1,) * 5),
        ))

    def test_deeds_that_are_cut(self):
        self.check_refused(1, (
            (0,), (127,), (1, 5), (3, 1, 2, 3), (127,) + (0,) * 127, (0, 9, 128), (0, 9, 255), (0, 9, 128, 0, 5), (128,), (255,),
        ))

    def test_deeds_that_look_ahead_of_the_begin(self):
        self.check_refused(1, (
            (128, 0), (255, 255), (0, 9, 128, 1), (0, 9, 128, 255), (3, 1, 2, 3, 4, 128, 4), (0, 9, 128, 0, 128, 4),
            (127,) + (1,) * 128 + (126,) + (1,) * 127 + (128, 255),
        ))

    def test_words(self):
        self.check_all(2, (
            ((0, 0), ()),
            ((1, 65, 1, 1, 0), (65,)),
            ((1, 65, 1, 8, 0), (65,) * 8),
            ((1, 65, 1, 9, 0, 0), (65,) * 9),
            ((2, 1, 1, 2, 1, 2, 0b01000000), (1, 2)),
            ((2, 1, 1, 2, 1, 8, 0b01101001), (1, 2, 2, 1, 2, 1, 1, 2)),
            ((3, 1, 1, 2, 2, 3, 2, 4, 0b11001000), (3, 1, 1, 2)),
            # In order of how long they are first, and then by their bytes: 9 is 0, 0 is 10, 255 is 11.
            ((3, 0, 2, 9, 1, 255, 2, 4, 0b01011000), (9, 0, 255, 9)),
            # Longer by two bits at once: 9 is 0, then 100, 101, 110, 111.
            ((5, 1, 3, 2, 3, 3, 3, 4, 3, 9, 1, 5, 0b01001011, 0b11110000), (9, 1, 2, 4, 3)),
            # Words that no byte of the body has.
            ((1, 65, 1, 0), ()),
            ((2, 1, 1, 2, 1, 0), ()),
            ((2, 1, 1, 2, 1, 1, 0), (1,)),
            ((3, 1, 2, 2, 2, 3, 1, 3, 0b10110000), (1, 2, 3)),
        ))

    def test_words_of_30_bits(self):
        head = (31,) + tuple(part for k in range(29) for part in (k, k + 1)) + (29, 30, 30, 30)
        self.check_all(2, (
            (head + (1, 255, 255, 255, 252), (30,)),
            (head + (1, 255, 255, 255, 248), (29,)),
            (head + (3, 255, 255, 255, 253, 255, 255, 255, 240), (30, 0, 29)),
        ))

    def test_words_of_128_unlike_bytes_and_more(self):
        head = (128, 1) + tuple(part for byte in range(100, 228) for part in (byte, 7))
        self.check_all(2, (
            (head + (0,), ()),
            (head + (2, 0, 4), (100, 101)),
            (head + (2, 255, 252), (227, 227)),
        ))
        head = (128, 2) + tuple(part for byte in range(256) for part in (byte, 8))
        body = drawn(5, 300, range(256))
        self.check_all(2, ((head + (172, 2) + body, body),))

    def test_numbers_that_are_refused(self):
        self.check_refused(2, (
            (), (128,), (0,), (128, 0, 0), (129, 0, 65, 1, 0), (128, 128, 128, 128, 128, 128, 1), (255,) * 6,
            (1, 65, 1), (1, 65, 1, 128), (1, 65, 1, 129, 0, 0), (1, 65, 1, 128, 128, 128, 128, 128, 128, 1),
            (0, 128), (0, 128, 0), (2, 1, 1, 2, 1),
        ))

    def test_heads_that_are_cut(self):
        head = (3, 1, 1, 2, 2, 3, 2, 4, 0b11001000)
        self.check_refused(2, tuple(head[:many] for many in range(len(head))))
        self.check_refused(2, ((255, 255, 255, 255, 255, 127), (255, 255, 255, 255, 255, 127, 1, 1, 2, 1)))

    def test_bytes_in_the_head_that_do_not_rise(self):
        self.check_refused(2, (
            (2, 2, 1, 1, 1, 2, 64), (2, 1, 1, 1, 1, 2, 0), (3, 1, 1, 3, 2, 2, 2, 1, 0), (3, 1, 1, 2, 2, 2, 2, 1, 0),
            (2, 0, 1, 0, 1, 0), (3, 0, 2, 0, 2, 0, 1, 0),
            # Right if the byte that is said twice were counted once.
            (2, 1, 1, 1, 1, 2, 1, 2, 64), (2, 1, 1, 2, 1, 2, 1, 2, 64), (1, 65, 1, 65, 1, 1, 0),
        ))

    def test_words_not_as_long_as_told(self):
        self.check_refused(2, (
            (1, 65, 0, 0), (1, 65, 2, 0), (1, 65, 2, 1, 0), (1, 65, 30, 0), (1, 65, 31, 0), (1, 65, 255, 0),
            (2, 1, 0, 2, 1, 1, 0), (2, 1, 0, 2, 0, 0), (3, 1, 1, 2, 1, 3, 0, 0), (2, 1, 1, 2, 129, 0), (2, 1, 1, 2, 128, 1, 0),
            # Together one, but two of 31 bits are among them.
            (32,) + tuple(part for k in range(30) for part in (k, k + 1)) + (30, 31, 31, 31) + (0,),
            # Together one, if a word of no bits could be.
            (1, 65, 0, 1),
        ))

    def test_words_that_are_not_one_together(self):
        self.check_refused(2, (
            (2, 1, 1, 2, 2, 1, 0), (2, 1, 2, 2, 2, 1, 0), (3, 1, 1, 2, 1, 3, 1, 1, 0), (3, 1, 1, 2, 1, 3, 2, 1, 0),
            (3, 1, 2, 2, 2, 3, 2, 1, 0), (3, 1, 1, 2, 2, 3, 3, 1, 0), (2, 1, 1, 2, 30, 1, 0), (3, 1, 1, 2, 1, 3, 30, 1, 0),
            (2, 1, 30, 2, 30, 0), (4, 1, 1, 2, 2, 3, 2, 4, 2, 0),
        ))

    def test_bits_that_are_no_word(self):
        self.check_refused(2, (
            (1, 65, 1, 1, 128), (1, 65, 1, 2, 64), (1, 65, 1, 2, 255), (1, 65, 1, 9, 0, 128), (1, 65, 1, 1) + (255,) * 19996,
            (0, 1), (0, 1, 0), (0, 1, 128), (0, 8, 0, 0, 0, 0, 0, 0, 0, 0),
        ))

    def test_too_few_bits(self):
        self.check_refused(2, (
            (1, 65, 1, 1), (1, 65, 1, 9, 0), (1, 65, 1, 17, 0, 0), (2, 1, 1, 2, 1, 1), (2, 1, 1, 2, 1, 9, 0),
            (3, 1, 1, 2, 2, 3, 2, 5, 255), (3, 1, 1, 2, 2, 3, 2, 8, 0b01010101), (1, 65, 1, 232, 7) + (0,) * 124,
        ))

    def test_bits_but_0_in_the_rest(self):
        self.check_refused(2, tuple((1, 65, 1, 1, 1 << k) for k in range(7)))
        self.check_refused(2, tuple((2, 1, 1, 2, 1, 9, 255, 128 + (1 << k)) for k in range(7)))
        self.check_refused(2, ((3, 1, 1, 2, 2, 3, 2, 4, 0b11001001), (3, 1, 1, 2, 2, 3, 2, 4, 0b11001010)))

    def test_bytes_behind(self):
        self.check_refused(2, (
            (0, 0, 0), (0, 0, 1), (1, 65, 1, 0, 0), (2, 1, 1, 2, 1, 0, 0), (1, 65, 1, 1, 0, 0), (1, 65, 1, 1, 0, 1),
            (1, 65, 1, 8, 0, 0), (1, 65, 1, 9, 0, 0, 0), (2, 1, 1, 2, 1, 8, 255, 0), (2, 1, 1, 2, 1, 2, 64, 0, 0, 0),
        ))

    def test_1000_bytes_and_not_one_more(self):
        new = ((127,) + (7,) * 128) * 7
        self.check_all(0, (((7,) * 1000, (7,) * 1000),))
        self.check_all(1, (
            (new + (103,) + (7,) * 104, (7,) * 1000),
            (new + (229, 0), (7,) * 1000),
        ))
        self.check_all(2, (((1, 7, 1, 232, 7) + (0,) * 125, (7,) * 1000),))
        self.check_refused(0, ((7,) * 1001, (7,) * 20000))
        self.check_refused(1, (
            new + (104,) + (7,) * 105, new + (230, 0), (0, 7) + (255, 0) * 8, (0, 7) + (255, 0) * 9999,
            new + (103,) + (7,) * 104 + (0, 7), new + (229, 0, 128, 0), ((127,) + (7,) * 128) * 155,
        ))
        self.check_refused(2, (
            (1, 7, 1, 233, 7) + (0,) * 126, (1, 7, 1, 232, 8) + (0,) * 141, (2, 6, 1, 7, 1, 233, 7) + (0,) * 126,
            (1, 7, 1, 128, 128, 128, 128, 128, 1) + (0,) * 19991,
        ))

    def test_a_kind_that_is_none(self):
        for kind in (3, 4, 255):
            self.check_refused(kind, ((), (0, 0), (0, 5)))

    def test_any_bytes_are_told_or_refused_with_bad_form(self):
        source = random.Random(8)
        for k in range(4000):
            some = tuple(source.choice((0, 1, 2, 3, 8, 127, 128, 129, 255)) for j in range(source.randrange(12)))
            for kind in KINDS:
                try:
                    body = unpressed(kind, some)
                except BadForm:
                    continue
                self.assertEqual(unpressed(kind, pressed(kind, body)), body)
                self.assertLessEqual(len(pressed(kind, body)), len(some))

    def test_each_byte_changed_is_told_or_refused_with_bad_form(self):
        for kind in (1, 2):
            some = pressed(kind, drawn(3, 40, (1, 2, 3)))
            for place in range(len(some)):
                for byte in range(256):
                    try:
                        body = unpressed(kind, some[:place] + (byte,) + some[place + 1:])
                    except BadForm:
                        continue
                    self.assertLessEqual(len(body), 1000)


class BestKindTest(unittest.TestCase):
    def test_each_kind_and_each_tie(self):
        for body, sizes, kind in (
            ((), (0, 0, 2), 0),
            ((0,), (1, 2, 5), 0),
            ((5, 6, 7), (3, 4, 9), 0),
            ((2, 2, 2, 2), (4, 4, 5), 0),
            ((1, 0, 1, 1, 1, 0, 1), (7, 7, 7), 0),
            ((0, 1, 1, 1, 1, 0, 1), (7, 8, 7), 0),
            ((0, 0, 0, 0, 0), (5, 4, 5), 1),
            ((0, 0, 0, 1, 0, 0, 1, 0), (8, 7, 7), 1),
            ((1, 0, 1, 1, 0, 1, 1, 1), (8, 8, 7), 2),
            # One new byte, seven copies of 130 and one of 89; a bit for each byte.
            ((3,) * 1000, (1000, 2 + 8 * 2, 1 + 2 + 2 + 125), 1),
        ):
            with self.subTest(body=body[:20], many=len(body)):
                self.assertEqual(best_kind(body), kind)
                self.assertEqual(tuple(len(pressed(kind, body)) for kind in KINDS), sizes)

    def test_long_bodies(self):
        self.assertEqual(best_kind(drawn(1, 1000, (3, 4))), 2)
        self.assertEqual(best_kind(tuple(range(250)) * 4), 1)
        self.assertEqual(best_kind(drawn(2, 1000, range(256))), 0)

    def test_the_lowest_of_those_with_the_fewest_bytes(self):
        for body in SHORT + LONG:
            sizes = [len(body), len(pressed(1, body)), fewest_of_words(body)]
            self.assertEqual(best_kind(body), sizes.index(min(sizes)), body[:20])


if __name__ == "__main__":
    unittest.main()
