"""Promises 4.1, 4.2 and 0.2 (a): what is no crate is refused with BadCrate, by all that are handed one."""

import random
import unittest

import by_hand
from by_hand import HEAD, checked, fixed, listing, number, piece, with_end, with_round

from filecrate.crates import (
    changed, crate_of, earlier, history, listed, read, rounds, spare_bytes, squeezed, taken,
)
from filecrate.desks import Desk
from filecrate.errors import BadCrate
from filecrate.pressing import pressed

CALLS = (
    read, listed, rounds, earlier, spare_bytes, squeezed, Desk,
    lambda crate: taken(crate, "a"),
    lambda crate: taken(crate, "nothing"),
    lambda crate: changed(crate, ()),
    lambda crate: history(crate, "a"),
)

A = ("folder", "a")
B = ("file", "a/b", (1, 2, 3))
C = ("link", "c", "../a")
TREE = (A, B, C)


def with_piece(some):
    """A crate with a piece that no row tells, all else being right."""
    return with_round(HEAD, [some], [])


def some_path(signs):
    """A folder's piece with these bytes for signs."""
    return checked((1,) + number(len(signs)) + signs)


def some_goal(signs):
    return checked((3, 1, 97) + number(len(signs)) + signs)


def some_file(kind, many, few, told_sum):
    """A file's piece of these parts, whatever they are."""
    return checked((2, 1, 97) + kind + many + number(len(few)) + told_sum + few)


class BadCrateTest(unittest.TestCase):
    def check_refused(self, crate, **told):
        for at, call in enumerate(CALLS):
            with self.subTest(call=at, **told):
                with self.assertRaises(BadCrate):
                    call(crate)

    def check_right(self, crate, tree):
        with self.subTest(right=str(tree)[:40]):
            self.assertEqual(read(crate), tree)


class HeadTest(BadCrateTest):
    def test_no_bytes(self):
        right = crate_of((A,))
        for thing in (None, 5, True, "", "FC1", [], list(right), (right,), ((),), right[:3] + (True,) + right[4:],
                      right[:3] + (None,) + right[4:], right[:3] + ("1",) + right[4:]):
            self.check_refused(thing, thing=str(thing)[:40])

    def test_a_truth_is_no_byte(self):
        crate = crate_of((A,))
        self.assertEqual(crate[3:5], (1, 1))
        for at in (3, 4):
            self.check_refused(crate[:at] + (True,) + crate[at + 1:], at=at)

    def test_numbers_that_are_no_bytes(self):
        crate = crate_of((B[:1] + ("b",) + B[2:],))
        for at in range(len(crate)):
            for byte in (-1, 256, crate[at] + 256, crate[at] - 256):
                with self.assertRaises(BadCrate):
                    read(crate[:at] + (byte,) + crate[at + 1:])

    def test_too_short(self):
        for crate in ((), (70,), (70, 67), (70, 67, 49), (70, 67, 49, 9), (70, 67, 49, 9, 0)):
            self.check_refused(crate, many=len(crate))

    def test_another_head(self):
        body = with_round(HEAD, [], [])[3:-2]
        self.check_right(checked(HEAD + body), ())
        for head in ((71, 67, 49), (70, 68, 49), (70, 67, 50), (70, 86, 49), (67, 70, 49), (0, 0, 0), (102, 99, 49)):
            self.check_refused(checked(head + body), head=head)

    def test_bytes_ahead_of_the_head_or_a_head_cut(self):
        self.check_refused(with_round((0,) + HEAD, [], []))
        self.check_refused(with_round(HEAD[1:], [], []))
        self.check_refused(with_round(HEAD[:2], [], []))
        self.check_refused(with_round(HEAD + HEAD, [], []))


class PieceTest(BadCrateTest):
    def test_right_ones(self):
        for entry in TREE:
            self.check_right(with_piece(piece(entry)), ())

    def test_other_marks(self):
        for mark in (0, 4, 5, 8, 10, 70, 127, 128, 129, 130, 255):
            for rest in ((1, 97), (1, 97, 1, 97), piece(B)[1:-2]):
                self.check_refused(with_piece(checked((mark,) + rest)), mark=mark, rest=rest)

    def test_a_piece_of_one_word_with_the_bytes_of_another(self):
        rest = {entry[0]: piece(entry)[1:-2] for entry in TREE}
        for mark, words in ((1, ("file", "link")), (2, ("folder", "link")), (3, ("folder", "file"))):
            for word in words:
                self.check_refused(with_piece(checked((mark,) + rest[word])), mark=mark, word=word)

    def test_a_wrong_check(self):
        for entry in TREE:
            some = piece(entry)
            for at in (-2, -1):
                for turn in (1, 128):
                    spoilt = list(some)
                    spoilt[at] ^= turn
                    self.check_refused(with_piece(tuple(spoilt)), entry=entry, at=at)

    def test_a_check_of_more_or_fewer_bytes(self):
        for entry in TREE:
            some = piece(entry)[:-2]
            for wrong in (some[1:], some[:-1], HEAD + some, some + (0, 0)):
                self.check_refused(with_piece(some + fixed(by_hand.check(wrong), 2)), entry=entry)

    def test_a_check_with_its_bytes_turned_about(self):
        for entry in TREE:
            some = piece(entry)
            self.assertNotEqual(some[-1], some[-2])
            self.check_refused(with_piece(some[:-2] + some[:-3:-1]), entry=entry)

    def test_a_cut_piece(self):
        # The list's first byte is read as one of the piece, or nothing stands behind.
        for entry in TREE:
            some = piece(entry)
            for many in range(1, len(some)):
                with self.assertRaises(BadCrate):
                    read(with_piece(some[:many]))
                with self.assertRaises(BadCrate):
                    read(HEAD + some[:many])
            self.check_refused(HEAD + some, entry=entry)

    def test_signs_that_make_no_path(self):
        self.check_right(with_piece(some_path((97,))), ())
        self.check_right(with_piece(some_path(tuple(b"/".join([b"a"] * 8)))), ())
        for signs in (b"", b"/", b"/a", b"a/", b"a//b", b".", b"..", b"a/..", b"../a", b"./a", b"A", b"a b", b"a%", b"a~", b"@",
                      b"abcdefghijklm", b"/".join([b"a"] * 9), b"a\\b", b"`", b"{", b"^", b",", b":", b"\x00", b"\x80", b"\xe1",
                      b"a\n", b"a/B"):
            self.check_refused(with_piece(some_path(tuple(signs))), signs=signs)

    def test_each_byte_as_a_sign(self):
        right = set(b"abcdefghijklmnopqrstuvwxyz0123456789-_")
        for byte in range(256):
            crate = with_piece(some_path((byte,)))
            if byte in right:
                self.assertEqual(read(crate), ())
            else:
                with self.assertRaises(BadCrate):
                    read(crate)

    def test_signs_that_make_no_goal(self):
        for signs in (b"..", b"a", b"../a/..", b"/".join([b".."] * 8)):
            self.check_right(with_piece(some_goal(tuple(signs))), ())
        for signs in (b"", b"/", b"/a", b"a/", b"a//b", b".", b"./a", b"a/.", b"A", b"a b", b"abcdefghijklm", b"\x00",
                      b"/".join([b".."] * 9), b"\xff", b"../A"):
            self.check_refused(with_piece(some_goal(tuple(signs))), signs=signs)

    def test_numbers_that_are_not_as_few_bytes_as_can_be(self):
        self.check_refused(with_piece(checked((1, 129, 0, 97))))
        self.check_refused(with_piece(checked((3, 1, 97, 129, 0, 97))))
        self.check_refused(with_piece(checked((2, 1, 97, 0, 129, 0, 1) + fixed(by_hand.body_sum((5,)), 4) + (5,))))
        self.check_refused(with_piece(checked((2, 1, 97, 0, 1, 129, 0) + fixed(by_hand.body_sum((5,)), 4) + (5,))))
        self.check_right(with_piece(checked((2, 1, 97, 0, 1, 1) + fixed(by_hand.body_sum((5,)), 4) + (5,))), ())

    def test_more_signs_or_bytes_than_there_are(self):
        for many in (2, 100, 4398046511103):
            self.check_refused(with_piece(checked((1,) + number(many) + (97,))), many=many)
            self.check_refused(with_piece(checked((3, 1, 97) + number(many) + (97,))), many=many)
            self.check_refused(with_piece(checked((2, 1, 97, 0) + number(many) * 2 + (0, 0, 0, 1))), many=many)


class BodyTest(BadCrateTest):
    def test_kinds_that_are_none(self):
        body = (1, 2, 3)
        told_sum = fixed(by_hand.body_sum(body), 4)
        self.check_right(with_piece(some_file((0,), (3,), body, told_sum)), ())
        for kind in ((3,), (4,), (9,), (127,), (128,), (255,), (128, 0), (129, 0), (130, 0)):
            self.check_refused(with_piece(some_file(kind, (3,), body, told_sum)), kind=kind)

    def test_another_sum(self):
        for kind in (0, 1, 2):
            for body in ((), (1, 2, 3), (7,) * 200):
                few = pressed(kind, body)
                right = by_hand.body_sum(body)
                self.check_right(with_piece(some_file((kind,), number(len(body)), few, fixed(right, 4))), ())
                for wrong in (right + 1, right ^ 256, right ^ 65536, right ^ (1 << 24), 0, right + 65521 * 65536 & 0xffffffff):
                    some = some_file((kind,), number(len(body)), few, fixed(wrong, 4))
                    self.check_refused(with_piece(some), kind=kind, wrong=wrong)

    def test_a_sum_of_the_pressed_bytes_is_another_one(self):
        body = (7, 8, 9) * 10
        few = pressed(1, body)
        self.check_refused(with_piece(some_file((1,), number(30), few, fixed(by_hand.body_sum(few), 4))))

    def test_another_length(self):
        for kind in (0, 1, 2):
            for body in ((), (1, 2, 3), (7,) * 200):
                few = pressed(kind, body)
                for many in {0, 1, 3, len(few), len(body) - 1, len(body) + 1, 1000, 1001} - {len(body), -1}:
                    some = some_file((kind,), number(many), few, fixed(by_hand.body_sum(body), 4))
                    self.check_refused(with_piece(some), kind=kind, many=many)

    def test_bodies_that_are_not_of_their_kind(self):
        cases = (
            (1, (1, 5)), (1, (128,)), (1, (0, 5, 128)), (1, (0, 5, 128, 1)), (1, (128, 0)), (1, (0, 5, 3)),
            (2, ()), (2, (1,)), (2, (1, 65, 1)), (2, (1, 65, 2, 1, 0)), (2, (2, 65, 1, 65, 1, 1, 0)), (2, (1, 65, 1, 1, 128)),
            (2, (1, 65, 1, 1, 64)), (2, (1, 65, 1, 1, 0, 0)), (2, (2, 65, 1, 66, 2, 1, 0)), (2, (0, 1, 0)), (2, (129, 0, 65, 1, 1, 0)),
        )
        for kind, few in cases:
            for body in ((), (5,), (65,), (5, 5, 5, 5)):
                some = some_file((kind,), number(len(body)), few, fixed(by_hand.body_sum(body), 4))
                self.check_refused(with_piece(some), kind=kind, few=few, body=body)

    def test_bodies_of_more_than_a_thousand_bytes(self):
        right = (("file", "a", (6,) * 1000),)
        for kind in (0, 1, 2):
            self.check_right(by_hand.crate(right, kinds={"a": (kind, pressed(kind, (6,) * 1000))}), right)
        body = (6,) * 1001
        for kind, few in ((0, body), (1, pressed(1, body)), (2, (1, 6, 1) + number(1001) + (0,) * 126)):
            self.check_refused(by_hand.crate((("file", "a", body),), kinds={"a": (kind, few)}), kind=kind)


class ListTest(BadCrateTest):
    def with_list(self, some, pieces=(piece(A), piece(C))):
        ahead = HEAD + sum(pieces, ())
        return with_end(ahead + some, len(ahead), 3)

    def test_right_ones(self):
        self.check_right(self.with_list(listing([("a", 3), ("c", 8)])), (A, C))
        self.check_right(self.with_list(listing([("c", 8)])), (C,))
        self.check_right(self.with_list(listing([])), ())

    def test_other_marks(self):
        for mark in (0, 4, 8, 10, 137, 255):
            self.check_refused(self.with_list((mark,) + listing([("a", 3)])[1:]), mark=mark)

    def test_cut_lists(self):
        some = listing([("a", 3), ("c", 8)])
        for many in range(len(some)):
            self.check_refused(self.with_list(some[:many]), many=many)
            self.check_refused(HEAD + piece(A) + piece(C) + some[:many], many=many)
        self.check_refused(HEAD + piece(A) + piece(C) + some)

    def test_another_number_of_rows(self):
        rows = listing([("a", 3), ("c", 8)])[2:]
        for many in ((0,), (1,), (3,), (100,), (130, 0), (128, 128, 128, 128, 128, 128, 1), number(4398046511103)):
            self.check_refused(self.with_list((9,) + many + rows), many=many)

    def test_numbers_that_are_not_as_few_bytes_as_can_be(self):
        self.check_refused(self.with_list((9, 129, 0, 1, 97, 3)))
        self.check_refused(self.with_list((9, 1, 129, 0, 97, 3)))
        self.check_refused(self.with_list((9, 1, 1, 97, 131, 0)))

    def test_places_where_no_piece_begins(self):
        right = HEAD + piece(A) + piece(C)
        for place in set(range(len(right) + 30)) - {3}:
            with self.assertRaises(BadCrate):
                read(self.with_list(listing([("a", place)])))
        self.check_refused(self.with_list(listing([("a", len(right))])))
        self.check_refused(self.with_list(listing([("a", 4398046511103)])))

    def test_a_piece_with_another_path(self):
        for rows in ([("b", 3)], [("c", 3)], [("a", 8)], [("a", 8), ("c", 3)], [("a", 3), ("c", 3)], [("a", 3), ("d", 8)]):
            self.check_refused(self.with_list(listing(rows)), rows=rows)

    def test_signs_that_make_no_path(self):
        for signs in ((), (65,), (47,), (0,), (97, 47), (46,), (46, 46), (225,)):
            self.check_refused(self.with_list((9, 1) + number(len(signs)) + signs + (3,)), signs=signs)

    def test_a_place_inside_a_body_that_holds_a_piece(self):
        entry = ("file", "b", (0,) + piece(A) + (0,))
        some = piece(entry)
        inside = 3 + len(some) - 2 - 1 - len(piece(A))
        self.assertEqual((HEAD + some)[inside:inside + len(piece(A))], piece(A))
        self.check_right(with_round(HEAD, [some], [("b", 3)]), (entry,))
        self.check_refused(with_round(HEAD, [some], [("a", inside)]))
        self.check_refused(with_round(HEAD, [some], [("a", inside), ("b", 3)]))

    def test_a_piece_of_a_later_round(self):
        first = with_round(HEAD, [], [])
        for many in (0, 1):
            wrong = with_round(HEAD, [], [("a", len(first) + 3)])
            self.assertEqual(len(wrong), len(first) + 3)
            self.check_refused(with_round(wrong, [piece(A)], [("a", len(wrong))] * many))
        self.check_right(with_round(first, [piece(A)], [("a", len(first))]), (A,))

    def test_rows_that_are_no_tree(self):
        file_a = ("file", "a", ())
        link_a = ("link", "a", "c")
        deep = ("folder", "a/b/c")
        cases = (
            (C, A), (A, A), (B,), (B, C), (A, deep), (file_a, B), (link_a, B), (A, file_a), (B, A), (A, C, B), (deep,), (A, B, deep),
            (A, ("folder", "a/b"), ("folder", "a-b")), (A, ("file", "a0", ()), B), tuple(("folder", f"f{k:03}") for k in range(101)),
        )
        for entries in cases:
            self.check_refused(by_hand.crate(entries), entries=str(entries)[:80])

    def test_the_same_row_twice(self):
        self.check_refused(self.with_list(listing([("a", 3), ("a", 3)])))

    def test_one_hundred_rows_are_a_tree(self):
        tree = tuple(("folder", f"f{k:03}") for k in range(100))
        self.check_right(by_hand.crate(tree), tree)


class EndTest(BadCrateTest):
    def setUp(self):
        self.first = by_hand.crate(TREE)
        self.ahead = HEAD + sum((piece(entry) for entry in TREE), ())
        self.some = self.first[:-10]

    def test_right(self):
        self.check_right(with_end(self.some, len(self.ahead), 3), TREE)

    def test_another_place_of_the_list(self):
        place = len(self.ahead)
        for wrong in (place - 1, place + 1, 0, 3, len(self.some), place + 256, place + 65536, place + (1 << 24), 0xffffffff):
            self.check_refused(with_end(self.some, wrong, 3), wrong=wrong)

    def test_another_place_of_the_begin(self):
        for wrong in (0, 2, 4, 259, 3 + 65536, 3 + (1 << 24), len(self.ahead), len(self.some)):
            self.check_refused(with_end(self.some, len(self.ahead), wrong), wrong=wrong)

    def test_both_places_changed_about(self):
        self.check_refused(with_end(self.some, 3, len(self.ahead)))

    def test_another_place_in_a_second_round(self):
        begin = len(self.first)
        more = self.first + piece(("folder", "z"))
        some = more + listing([("z", begin)])
        self.check_right(with_end(some, len(more), begin), (("folder", "z"),))
        for places in ((len(more), 3), (begin, begin), (len(self.ahead), begin), (len(more), len(more)), (len(more) - begin, 0),
                       (len(more) - begin + 3, 3), (len(more), begin - 10)):
            self.check_refused(with_end(some, *places), places=places)

    def test_a_wrong_check(self):
        some = self.first[:-2]
        second = with_round(self.first, [], [])[:-2]
        for wrong in (some[3:], some[:-1], some[len(self.ahead):], some[:-8], some + (0,), ()):
            self.check_refused(some + fixed(by_hand.check(wrong), 2), wrong=len(wrong))
        for wrong in (second[3:], second[len(self.first):], self.first[:-2] + second[len(self.first):], second[-10:]):
            self.check_refused(second + fixed(by_hand.check(wrong), 2), wrong=len(wrong))
        self.check_refused(some + (self.first[-1], self.first[-2]))

    def test_a_cut_end(self):
        for many in range(1, 11):
            self.check_refused(self.first[:-many], many=many)

    def test_bytes_behind(self):
        for behind in ((0,), (9,), (1,), (0, 0), (70, 67, 49), self.first, piece(A), piece(A) + listing([]), listing([]), (255,) * 12,
                       self.first[-10:], self.first[-2:]):
            self.check_refused(self.first + behind, behind=behind[:12])

    def test_an_earlier_round_that_is_wrong(self):
        wrong_ones = (
            self.some + fixed(len(self.ahead), 4) + fixed(3, 4) + (0, 0),
            with_end(self.some, len(self.ahead) + 1, 3),
            with_end(self.some, len(self.ahead), 4),
            by_hand.crate((A, C, B)),
            with_round(HEAD, [piece(A)], [("a", 4)]),
            with_round(HEAD, [piece(A)[:-1] + (0,)], []),
            self.first + (0,),
        )
        for wrong in wrong_ones:
            self.check_refused(with_round(wrong, [piece(A)], [("a", len(wrong))]), wrong=wrong[-12:])
            self.check_refused(with_round(wrong, [], []), wrong=wrong[-12:])
        self.check_right(with_round(self.first, [piece(A)], [("a", len(self.first))]), (A,))

    def test_an_end_without_a_list(self):
        self.check_refused(with_end(self.ahead, len(self.ahead), 3))

    def test_a_list_without_an_end_between_rounds(self):
        some = HEAD + listing([])
        self.check_refused(with_round(some, [], []))


class ChangedBytesTest(BadCrateTest):
    def crates(self):
        tree = (A, ("file", "a/b", (7, 7, 7, 7, 7, 7)))
        return crate_of(()), crate_of((C,)), crate_of(tree), changed(crate_of(tree), (C,))

    def test_one_byte_changed(self):
        for crate in self.crates()[:3]:
            for at in range(len(crate)):
                for byte in range(256):
                    if byte != crate[at]:
                        with self.assertRaises(BadCrate):
                            read(crate[:at] + (byte,) + crate[at + 1:])

    def test_two_neighbouring_bytes_changed(self):
        dice = random.Random(45)
        for crate in self.crates():
            for at in range(len(crate) - 1):
                for _ in range(400):
                    two = (dice.randrange(256), dice.randrange(256))
                    if two != crate[at:at + 2]:
                        with self.assertRaises(BadCrate):
                            read(crate[:at] + two + crate[at + 2:])

    def test_each_other_check_of_a_second_round(self):
        crate = changed(crate_of(()), ())
        right = crate[-2:]
        for wrong in range(65536):
            two = fixed(wrong, 2)
            if two != right:
                with self.assertRaises(BadCrate):
                    read(crate[:-2] + two)

    def test_neighbours_changed_about(self):
        for crate in self.crates():
            for at in range(len(crate) - 1):
                if crate[at] != crate[at + 1]:
                    with self.assertRaises(BadCrate):
                        read(crate[:at] + (crate[at + 1], crate[at]) + crate[at + 2:])

    def test_in_a_longer_crate(self):
        dice = random.Random(46)
        crate = crate_of(tuple(("file", f"f{k}", tuple(dice.choices(range(256), k=200))) for k in range(5)))
        for _ in range(150):
            at = dice.randrange(len(crate))
            two = (dice.randrange(256), dice.randrange(256))[:len(crate) - at]
            if two != crate[at:at + 2]:
                with self.assertRaises(BadCrate):
                    read(crate[:at] + two + crate[at + 2:])

    def test_a_byte_left_out_or_put_in(self):
        for crate in self.crates():
            for at in range(len(crate)):
                with self.assertRaises(BadCrate):
                    read(crate[:at] + crate[at + 1:])
                for byte in (0, 9, crate[at], 255):
                    with self.assertRaises(BadCrate):
                        read(crate[:at] + (byte,) + crate[at:])


if __name__ == "__main__":
    unittest.main()
