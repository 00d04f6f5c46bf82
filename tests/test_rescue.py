"""Promises 4.5 and 0.2 (d)."""

import random
import unittest

import by_hand
from by_hand import HEAD, checked, fixed, listing, number, piece, with_end, with_round
from some_trees import DEEDS, TREES, WORDS, random_tree

from filecrate.crates import changed, crate_of, read
from filecrate.errors import BadCrate
from filecrate.rescue import rescued

A = ("folder", "a")
B = ("file", "a/b", (1, 2, 3))
C = ("link", "c", "../a")
D = ("file", "d", DEEDS)
TREE = (A, B, C)
TEN = tuple(range(200, 210))


def three_rounds():
    trees = (TREE, (A, D), (A, B, D, ("file", "e", WORDS)))
    return changed(changed(crate_of(trees[0]), trees[1]), trees[2])


class BeginningsTest(unittest.TestCase):
    def check_beginnings(self, crate, entries):
        """Each beginning tells just the entries whose pieces are whole, in the order of the bytes."""
        ends = [found["end"] for some in by_hand.read_rounds(crate) for found in some["pieces"]]
        self.assertEqual(len(ends), len(entries))
        for many in range(len(crate) + 1):
            whole = sum(1 for end in ends if end <= many)
            self.assertEqual(rescued(crate[:many]), entries[:whole])

    def test_of_a_crate_of_one_round(self):
        self.check_beginnings(crate_of(TREE), TREE)
        self.check_beginnings(crate_of(()), ())

    def test_of_a_crate_of_several_rounds(self):
        self.check_beginnings(three_rounds(), TREE + (D, ("file", "e", WORDS)))

    def test_of_random_crates(self):
        dice = random.Random(47)
        for _ in range(8):
            crate = crate_of(random_tree(dice, 6))
            entries = read(crate)
            for _ in range(3):
                tree = random_tree(dice, 4)
                entries += tuple(entry for entry in tree if entry not in entries)
                crate = changed(crate, tree)
            self.check_beginnings(crate, entries)

    def test_pieces_that_no_row_tells_and_pieces_written_twice(self):
        crate = with_round(with_round(HEAD, [piece(C), piece(B), piece(C)], []), [piece(B), piece(A)], [])
        self.check_beginnings(crate, (C, B, C, B, A))

    def test_where_a_body_holds_the_bytes_of_a_crate(self):
        entry = ("file", "b", crate_of(TREE))
        self.check_beginnings(by_hand.crate((entry, C)), (entry, C))

    def test_whole_trees(self):
        for tree in TREES:
            with self.subTest(tree=str(tree)[:40]):
                self.assertEqual(rescued(crate_of(tree)), tree)


class HeadTest(unittest.TestCase):
    def test_other_heads_tell_nothing(self):
        rest = crate_of(TREE)[3:]
        self.assertEqual(rescued(HEAD + rest), TREE)
        for head in ((), (70,), (70, 67), (71, 67, 49), (70, 68, 49), (70, 67, 50), (0,) + HEAD, (70, 86, 49), (49, 67, 70)):
            with self.subTest(head=head):
                self.assertEqual(rescued(head + rest), ())

    def test_short_bytes_tell_nothing(self):
        for some in ((), (70,), (70, 67), (70, 67, 49), (70, 67, 49, 9), (0,), (1, 1, 97), (255,) * 20):
            with self.subTest(some=some):
                self.assertEqual(rescued(some), ())


class ListTest(unittest.TestCase):
    def check_passed(self, some, **told):
        """Such a list and ten bytes are passed, between pieces, first and last."""
        with self.subTest(**told):
            self.assertEqual(rescued(HEAD + piece(C) + some + piece(A)), (C, A))
            self.assertEqual(rescued(HEAD + some + some + piece(A) + piece(B)), (A, B))
            self.assertEqual(rescued(HEAD + piece(B) + some), (B,))

    def check_not_passed(self, some, **told):
        with self.subTest(**told):
            self.assertEqual(rescued(HEAD + piece(C) + some + piece(A)), (C,))
            self.assertEqual(rescued(HEAD + some + piece(A) + piece(B)), ())

    def test_rows_of_any_paths_and_places(self):
        for rows in ([], [("a", 3)], [("x", 0)], [("a/b/c", 4398046511103)], [("z", 1), ("a", 2), ("z", 1)], [("a", 9999)] * 150):
            self.check_passed(listing(rows) + TEN, rows=rows[:3])

    def test_any_ten_bytes(self):
        for ten in ((0,) * 10, (255,) * 10, (9,) * 10, (1, 1, 97) * 3 + (1,), piece(A) * 2, listing([]) * 5):
            self.check_passed(listing([("a", 3)]) + ten, ten=ten)

    def test_fewer_than_ten_bytes(self):
        for many in range(10):
            with self.subTest(many=many):
                self.assertEqual(rescued(HEAD + piece(C) + listing([]) + TEN[:many]), (C,))

    def test_more_than_ten_bytes(self):
        for more in ((0,), (255,), (4,), (10,), (200, 200)):
            self.check_not_passed(listing([]) + TEN + more, more=more)

    def test_lists_that_do_not_stand_whole(self):
        cases = (
            (9, 129, 0, 1, 97, 3), (9, 1, 129, 0, 97, 3), (9, 1, 1, 97, 131, 0), (9, 1, 0, 3), (9, 1, 1, 65, 3), (9, 1, 2, 97, 47, 3),
            (9, 1, 1, 0, 3), (9, 128, 0), (9, 255, 255, 255, 255, 255, 255, 1), (9, 1, 1, 97, 255, 255, 255, 255, 255, 255, 1),
            (9, 2, 1, 97, 3, 2, 46, 46, 3),
        )
        for some in cases:
            self.check_not_passed(some + TEN, row=some)

    def test_a_list_that_is_cut(self):
        some = listing([("a/b", 300), ("c", 3)])
        for many in range(len(some)):
            with self.subTest(many=many):
                self.assertEqual(rescued(HEAD + piece(C) + some[:many]), (C,))
        self.assertEqual(rescued(HEAD + piece(C) + (9,) + number(4398046511103) + piece(A) * 9), (C,))

    def test_an_end_alone_or_two_of_them(self):
        self.assertEqual(rescued(HEAD + piece(C) + (0,) * 10 + piece(A)), (C,))
        self.assertEqual(rescued(HEAD + piece(C) + listing([]) + (0,) * 20 + piece(A)), (C,))

    def test_two_lists_behind_one_another(self):
        # The second list's bytes count as the end of the first one.
        some = HEAD + piece(C) + listing([("x", 1)]) + listing([]) + TEN[:8] + piece(A)
        self.assertEqual(rescued(some), (C, A))

    def test_a_wrong_end_is_passed_though_the_bytes_are_no_crate(self):
        first = HEAD + piece(A) + listing([("a", 3)]) + TEN
        crate = with_round(first, [piece(C)], [("c", len(first))])
        with self.assertRaises(BadCrate):
            read(crate)
        self.assertEqual(rescued(crate), (A, C))


class SpoiltTest(unittest.TestCase):
    def test_it_ends_at_a_spoilt_piece(self):
        cases = [
            checked((4, 1, 97)), checked((0, 1, 97)), checked((1, 1, 65)), checked((1, 0)), checked((1, 129, 0, 97)),
            checked((3, 1, 97, 1, 46)), checked((3, 1, 97, 0)), piece(A)[:-1], piece(A)[:-1] + (0,), piece(A)[:-2] + (0, 0),
            checked((2, 1, 97, 3, 0, 0, 0, 0, 0, 1)), checked((2, 1, 97, 0, 1, 0, 0, 0, 0, 1)), checked((2, 1, 97, 0, 0, 0, 0, 0, 0, 0)),
            piece(B, many=2), piece(B, told_sum=5), piece(B, 1), piece(B, 2), piece(("file", "a", (1,) * 1001)), (0,), (255,), (200, 3),
        ]
        for some in cases:
            with self.subTest(some=some[:20]):
                self.assertEqual(rescued(HEAD + piece(C) + some + piece(A)), (C,))
                self.assertEqual(rescued(HEAD + some + piece(A)), ())

    def test_one_byte_changed_in_a_piece(self):
        crate = crate_of((A, C, D))
        pieces = by_hand.read_rounds(crate)[0]["pieces"]
        for at in range(pieces[0]["begin"], pieces[2]["end"]):
            whole = sum(1 for found in pieces if found["end"] <= at)
            for turn in (1, 2, 16, 128):
                spoilt = crate[:at] + (crate[at] ^ turn,) + crate[at + 1:]
                with self.subTest(at=at, turn=turn):
                    self.assertEqual(rescued(spoilt), (A, C, D)[:whole])

    def test_bytes_behind_a_crate(self):
        crate = three_rounds()
        entries = rescued(crate)
        self.assertEqual(len(entries), 5)
        for behind in ((0,), (9,), (255, 255), (70, 67, 49), crate, (1, 1), (2, 1, 97, 0)):
            with self.subTest(behind=behind[:5]):
                self.assertEqual(rescued(crate + behind), entries)
        self.assertEqual(rescued(crate + piece(A) + piece(C)), entries + (A, C))

    def test_entries_that_are_no_tree_are_told(self):
        self.assertEqual(rescued(HEAD + piece(B) + piece(A) + piece(A) + piece(("file", "a", ()))), (B, A, A, ("file", "a", ())))

    def test_more_than_a_hundred_entries_are_told(self):
        entries = tuple(("folder", f"f{k}") for k in range(250))
        self.assertEqual(rescued(HEAD + sum((piece(entry) for entry in entries), ())), entries)

    def test_any_bytes(self):
        dice = random.Random(48)
        for _ in range(300):
            some = HEAD + tuple(dice.choices((0, 1, 2, 3, 9, 97, 128, 255), k=dice.randint(0, 40)))
            # A check is right by chance once in 65536 times, and not with this dice.
            self.assertEqual(rescued(some), ())

    def test_other_places_in_an_end_and_another_check_count_for_nothing(self):
        some = HEAD + piece(A) + listing([("a", 3)])
        for list_place, begin in ((8, 3), (0, 0), (3, 8), (99, 4294967295)):
            with self.subTest(list_place=list_place):
                self.assertEqual(rescued(with_end(some, list_place, begin) + piece(C)), (A, C))
        self.assertEqual(rescued(some + fixed(8, 4) + fixed(3, 4) + (0, 0) + piece(C)), (A, C))


if __name__ == "__main__":
    unittest.main()
