"""Promises 4.1 to 4.4, 0.1 and 0.2 (a) and (b): crates that are right."""

import random
import unittest

import by_hand
from some_trees import BODIES, DEEDS, LONG_PATH, PLAIN, TREES, WORDS, random_tree

from filecrate.crates import (
    changed, crate_of, earlier, history, listed, read, rounds, spare_bytes, squeezed, taken,
)
from filecrate.errors import BadCrate, NoEntry
from filecrate.pressing import best_kind, pressed, unpressed

A = ("folder", "a")
F = ("file", "a/f", (1, 2, 3))
G = ("file", "a/f", (4, 5))
H = ("file", "h", DEEDS)
L = ("link", "l", "../a")
N = ("folder", "l")


def three_rounds():
    """A crate by hand whose pieces and rows stand in an order that crate_of and changed never make."""
    pieces = [by_hand.piece(entry) for entry in (F, A, F, G)]
    places = [3]
    for some in pieces:
        places.append(places[-1] + len(some))
    first = by_hand.with_round(by_hand.HEAD, pieces, [("a", places[1]), ("a/f", places[2])])
    more = [by_hand.piece(L), by_hand.piece(A)]
    begin = len(first)
    second_a = begin + len(more[0])
    second = by_hand.with_round(first, more, [("a", second_a), ("a/f", places[3]), ("l", begin)])
    third = by_hand.with_round(second, [], [("a", places[1]), ("a/f", places[0])])
    return first, second, third


class ByHandTest(unittest.TestCase):
    def test_what_is_written_by_hand_is_right(self):
        self.assertEqual(by_hand.check(tuple(b"123456789")), 10673)
        self.assertEqual(by_hand.check(()), 65535)
        self.assertEqual(by_hand.body_sum((1, 2, 3)), 851975)
        self.assertEqual(by_hand.number(300), (172, 2))
        self.assertEqual(by_hand.fixed(258, 4), (0, 0, 1, 2))

    def test_the_bodies_are_of_all_kinds(self):
        self.assertEqual([best_kind(body) for body in (PLAIN, DEEDS, WORDS)], [0, 1, 2])


class CrateOfTest(unittest.TestCase):
    def test_the_bytes_of_a_crate_of_nothing(self):
        self.assertEqual(crate_of(()), (70, 67, 49, 9, 0, 0, 0, 0, 3, 0, 0, 0, 3, 249, 217))

    def test_the_bytes_of_a_small_crate(self):
        tree = (("folder", "a"), ("file", "a/b", (1, 2, 3)), ("link", "c", "../a"))
        told = (70, 67, 49)
        told += by_hand.checked((1, 1, 97))
        told += by_hand.checked((2, 3, 97, 47, 98, 0, 3, 3, 0, 13, 0, 7, 1, 2, 3))
        told += by_hand.checked((3, 1, 99, 4, 46, 46, 47, 97))
        told += (9, 3, 1, 97, 3, 3, 97, 47, 98, 8, 1, 99, 25)
        told += (0, 0, 0, 35, 0, 0, 0, 3)
        self.assertEqual(crate_of(tree), by_hand.checked(told))

    def test_each_sign_has_its_byte(self):
        path = "abcdefghijkl/mnopqrstuvwx/yz0123456789/-._"
        some = tuple(range(97, 109)) + (47,) + tuple(range(109, 121)) + (47, 121, 122) + tuple(range(48, 58)) + (47, 45, 46, 95)
        tree = tuple(("folder", "/".join(path.split("/")[:many])) for many in (1, 2, 3, 4))
        for entries, word, mark in ((tree, "folder", 1), (tree[:3] + (("link", path, path),), "link", 3)):
            with self.subTest(word=word):
                found = by_hand.read_rounds(crate_of(entries))[0]["pieces"][3]
                told = (mark, 42) + some
                self.assertEqual(crate_of(entries)[found["begin"]:found["begin"] + 44], told)

    def test_bodies_as_they_are_stand_so(self):
        trees = [tree for tree in TREES if all(best_kind(entry[2]) == 0 for entry in tree if entry[0] == "file")]
        self.assertGreater(len(trees), 5)
        for tree in trees:
            with self.subTest(tree=str(tree)[:60]):
                self.assertEqual(crate_of(tree), by_hand.crate(tree))

    def test_read_by_hand_it_has_a_piece_for_each_entry_in_order(self):
        dice = random.Random(41)
        for tree in TREES + tuple(random_tree(dice) for _ in range(30)):
            with self.subTest(tree=str(tree)[:60]):
                found, = by_hand.read_rounds(crate_of(tree))
                self.assertEqual(found["begin"], 3)
                self.assertEqual([(piece["word"], piece["path"]) for piece in found["pieces"]], [entry[:2] for entry in tree])
                self.assertEqual(found["rows"], [(piece["path"], piece["begin"]) for piece in found["pieces"]])
                for piece, entry in zip(found["pieces"], tree):
                    self.check_piece(piece, entry)

    def check_piece(self, piece, entry):
        if entry[0] == "link":
            self.assertEqual(piece["goal"], entry[2])
        if entry[0] == "file":
            body = entry[2]
            self.assertEqual(piece["kind"], best_kind(body))
            self.assertEqual(piece["many"], len(body))
            self.assertEqual(piece["few"], len(pressed(best_kind(body), body)))
            self.assertEqual(piece["sum"], by_hand.body_sum(body))
            self.assertEqual(unpressed(piece["kind"], piece["pressed"]), body)

    def test_it_tells_the_tree(self):
        dice = random.Random(42)
        for tree in TREES + tuple(random_tree(dice, 25) for _ in range(60)):
            with self.subTest(tree=str(tree)[:60]):
                crate = crate_of(tree)
                self.assertEqual(read(crate), tree)
                self.assertEqual(rounds(crate), 1)
                self.assertIsNone(earlier(crate))
                self.assertEqual(spare_bytes(crate), 0)
                self.assertEqual(squeezed(crate), crate)

    def test_a_little_beyond_the_limits_nothing_is_refused(self):
        tree = tuple(("folder", f"f{k:03}") for k in range(101))
        self.assertEqual(crate_of(tree), by_hand.crate(tree))
        self.assertEqual(len(by_hand.read_rounds(crate_of((("file", "a", PLAIN * 400),)))), 1)


class TellingTest(unittest.TestCase):
    def test_listed(self):
        tree = (("folder", "a"), ("file", "a/b", DEEDS), ("link", "c", "a/b"), ("file", "d", ()), ("file", "e", PLAIN),
                ("file", "f", WORDS))
        told = (
            ("a", "folder", 0, 0), ("a/b", "file", 90, 6), ("c", "link", 0, 0), ("d", "file", 0, 0), ("e", "file", 3, 3),
            ("f", "file", len(WORDS), len(pressed(2, WORDS))),
        )
        self.assertEqual(listed(crate_of(tree)), told)
        self.assertEqual(listed(crate_of(())), ())

    def test_listed_tells_how_the_piece_of_the_row_is_pressed(self):
        for kind in (0, 1, 2):
            for body in BODIES:
                with self.subTest(kind=kind, body=body[:5]):
                    few = pressed(kind, body)
                    crate = by_hand.crate((("file", "a", body),), kinds={"a": (kind, few)})
                    self.assertEqual(read(crate), (("file", "a", body),))
                    self.assertEqual(listed(crate), (("a", "file", len(body), len(few)),))

    def test_bodies_that_are_not_pressed_best_are_right_too(self):
        for few in ((0, 1, 0, 2, 0, 3), (1, 1, 2, 0, 3), (2, 1, 2, 3)):
            with self.subTest(few=few):
                crate = by_hand.crate((("file", "a", (1, 2, 3)),), kinds={"a": (1, few)})
                self.assertEqual(read(crate), (("file", "a", (1, 2, 3)),))
                self.assertEqual(listed(crate), (("a", "file", 3, len(few)),))

    def test_listed_of_the_same_entry_pressed_twice(self):
        one = by_hand.piece(H)
        other = by_hand.piece(H, 1, pressed(1, DEEDS))
        for place, few in ((3, 90), (3 + len(one), 6)):
            with self.subTest(few=few):
                crate = by_hand.with_round(by_hand.HEAD, [one, other], [("h", place)])
                self.assertEqual(listed(crate), (("h", "file", 90, few),))

    def test_taken(self):
        for tree in TREES:
            crate = crate_of(tree)
            for entry in tree[:20]:
                with self.subTest(path=entry[1]):
                    self.assertEqual(taken(crate, entry[1]), entry)

    def test_taken_where_nothing_is(self):
        crate = changed(crate_of((A, F, H)), (A, L))
        self.assertEqual(taken(crate, "l"), L)
        for path in ("a/f", "h", "b", "a/l", "l/a", "", LONG_PATH, "A B", "a/"):
            with self.subTest(path=path):
                with self.assertRaises(NoEntry):
                    taken(crate, path)


class RoundsTest(unittest.TestCase):
    def setUp(self):
        self.trees = ((A, F), (A, G, L), (A, F))
        self.crates = three_rounds()

    def test_each_round_tells_its_tree(self):
        for many, (crate, tree) in enumerate(zip(self.crates, self.trees), 1):
            with self.subTest(many=many):
                self.assertEqual(read(crate), tree)
                self.assertEqual(rounds(crate), many)
                self.assertEqual(squeezed(crate), crate_of(tree))

    def test_earlier(self):
        first, second, third = self.crates
        self.assertEqual(earlier(third), second)
        self.assertEqual(earlier(second), first)
        self.assertIsNone(earlier(first))

    def test_history(self):
        third = self.crates[2]
        self.assertEqual(history(third, "a"), (A, A, A))
        self.assertEqual(history(third, "a/f"), (F, G, F))
        self.assertEqual(history(third, "l"), (None, L, None))
        self.assertEqual(history(third, "h"), (None, None, None))
        self.assertEqual(history(third, ""), (None, None, None))
        self.assertEqual(history(self.crates[0], "l"), (None,))

    def test_history_of_a_path_whose_word_changes(self):
        crate = changed(changed(crate_of((L,)), ()), (N,))
        self.assertEqual(history(crate, "l"), (L, None, N))

    def test_spare_bytes_are_those_of_pieces_that_no_last_row_tells(self):
        f, a, g, link = [len(by_hand.piece(entry)) for entry in (F, A, G, L)]
        first, second, third = self.crates
        self.assertEqual(spare_bytes(first), f + g)
        self.assertEqual(spare_bytes(second), f + a + f)
        self.assertEqual(spare_bytes(third), f + g + link + a)

    def test_spare_bytes_of_changed(self):
        crate = crate_of((A, F, H))
        gone = changed(crate, ())
        self.assertEqual(spare_bytes(gone), self.many_of_pieces(crate))
        self.assertEqual(spare_bytes(changed(gone, (A, F, H))), 0)
        self.assertEqual(spare_bytes(changed(gone, (A,))), self.many_of_pieces(crate) - len(by_hand.piece(A)))

    def many_of_pieces(self, crate):
        return sum(piece["end"] - piece["begin"] for found in by_hand.read_rounds(crate) for piece in found["pieces"])

    def test_a_list_can_tell_pieces_in_any_order_of_places(self):
        pieces = [by_hand.piece(entry) for entry in (L, H, F, A)]
        places = [3 + sum(len(some) for some in pieces[:many]) for many in range(4)]
        rows = [("a", places[3]), ("a/f", places[2]), ("h", places[1]), ("l", places[0])]
        crate = by_hand.with_round(by_hand.HEAD, pieces, rows)
        self.assertEqual(read(crate), (A, F, H, L))
        self.assertEqual(spare_bytes(crate), 0)

    def test_many_short_rounds(self):
        crate = crate_of((A,))
        for many in range(200):
            crate = by_hand.with_round(crate, [], [("a", 3)] * (many % 2))
        self.assertEqual(rounds(crate), 201)
        self.assertEqual(history(crate, "a"), (A,) + (None, A) * 100)

    def test_places_of_several_bytes(self):
        tree = tuple(("file", f"f{k}", (k,) * 900) for k in range(3))
        pieces = [by_hand.piece(entry) for entry in tree]
        crate = by_hand.crate(tree)
        self.assertEqual(read(crate), tree)
        again = by_hand.with_round(crate, [by_hand.piece(L)], [("f2", 3 + len(pieces[0]) * 2), ("l", len(crate))])
        self.assertEqual(read(again), (tree[2], L))
        self.assertEqual(changed(crate, (tree[2], L)), again)


class ChangedTest(unittest.TestCase):
    def test_the_crate_stands_ahead_and_a_round_behind(self):
        dice = random.Random(44)
        for _ in range(40):
            trees = [random_tree(dice) for _ in range(dice.randint(2, 5))]
            crate = crate_of(trees[0])
            kept = [crate]
            for tree in trees[1:]:
                crate = changed(crate, tree)
                self.assertEqual(crate[:len(kept[-1])], kept[-1])
                kept.append(crate)
            self.assertEqual([read(some) for some in kept], trees)
            self.assertEqual(rounds(crate), len(trees))
            self.assertEqual([earlier(some) for some in kept], [None] + kept[:-1])
            self.check_pieces(crate, trees)
            self.check_history(crate, trees)

    def check_pieces(self, crate, trees):
        """New pieces stand just for new entries, in their order, and rows tell the first piece."""
        places = {}
        for found, tree in zip(by_hand.read_rounds(crate), trees):
            new = [entry for entry in tree if entry not in places]
            self.assertEqual([entry[:2] for entry in new], [(piece["word"], piece["path"]) for piece in found["pieces"]])
            places.update({entry: piece["begin"] for entry, piece in zip(new, found["pieces"])})
            self.assertEqual(found["rows"], [(entry[1], places[entry]) for entry in tree])

    def check_history(self, crate, trees):
        for path in ("a", "b", "a/a", "a/b", "a-b", "c"):
            told = tuple(({entry[1]: entry for entry in tree}).get(path) for tree in trees)
            self.assertEqual(history(crate, path), told)

    def test_the_bytes_of_a_round_more(self):
        crate = crate_of((A, F))
        told = by_hand.with_round(crate, [by_hand.piece(G), by_hand.piece(L)], [
            ("a", 3), ("a/f", len(crate)), ("l", len(crate) + len(by_hand.piece(G))),
        ])
        self.assertEqual(changed(crate, (A, G, L)), told)

    def test_new_bodies_are_pressed_best(self):
        crate = changed(crate_of(()), (("file", "a", DEEDS), ("file", "b", PLAIN), ("file", "c", WORDS)))
        self.assertEqual([piece["kind"] for piece in by_hand.read_rounds(crate)[1]["pieces"]], [1, 0, 2])

    def test_the_same_tree_is_a_round_more_too(self):
        for tree in ((), (A, F), (H, L)):
            with self.subTest(tree=str(tree)[:30]):
                crate = crate_of(tree)
                again = changed(crate, tree)
                places = by_hand.read_rounds(crate)[0]["rows"]
                self.assertEqual(again, by_hand.with_round(crate, [], places))

    def test_back_to_an_earlier_tree_no_piece_is_new(self):
        crate = changed(changed(crate_of((A, F, H)), (A, G)), ())
        for tree in ((A, F, H), (A, G), (A, G, H), (H,), ()):
            with self.subTest(tree=str(tree)[:30]):
                again = changed(crate, tree)
                self.assertEqual(by_hand.read_rounds(again)[3]["pieces"], [])
                self.assertEqual(read(again), tree)

    def test_rows_tell_the_first_piece_of_their_entry(self):
        crate = three_rounds()[2]
        found = [piece for some in by_hand.read_rounds(crate) for piece in some["pieces"]]
        rows = by_hand.read_rounds(changed(crate, (A, F, L)))[3]["rows"]
        self.assertEqual(rows, [("a", found[1]["begin"]), ("a/f", found[0]["begin"]), ("l", found[4]["begin"])])

    def test_pieces_that_no_row_tells_count(self):
        crate = by_hand.with_round(by_hand.HEAD, [by_hand.piece(entry) for entry in (H, L)], [])
        self.assertEqual(read(crate), ())
        again = changed(crate, (H, L))
        self.assertEqual(again, by_hand.with_round(crate, [], [("h", 3), ("l", 3 + len(by_hand.piece(H)))]))

    def test_a_piece_pressed_otherwise_counts(self):
        few = (0, 7, 0, 8, 0, 9, 214, 2)
        self.assertEqual(unpressed(1, few), (7, 8, 9) * 30 + (7, 8))
        entry = ("file", "h", unpressed(1, few))
        crate = by_hand.crate((entry,), kinds={"h": (1, few)})
        again = changed(crate, (entry,))
        self.assertEqual(by_hand.read_rounds(again)[1]["pieces"], [])
        self.assertEqual(listed(again), (("h", "file", 92, 8),))

    def test_entries_alike_but_for_their_word_path_or_body_are_others(self):
        crate = crate_of((("file", "l", ()), ("file", "m", (1,))))
        for entry in (("folder", "l"), ("link", "l", "m"), ("file", "l", (1,)), ("file", "n", ()), ("file", "m", (1, 0))):
            with self.subTest(entry=entry):
                again = changed(crate, (entry,))
                self.assertEqual(len(by_hand.read_rounds(again)[1]["pieces"]), 1)
                self.assertEqual(read(again), (entry,))


class BeginningsTest(unittest.TestCase):
    def check_beginnings(self, crate, kept):
        """Just the beginnings kept are crates, and each tells its tree."""
        for many in range(len(crate)):
            if crate[:many] in kept:
                self.assertEqual(read(crate[:many]), kept[crate[:many]])
            else:
                with self.assertRaises(BadCrate):
                    read(crate[:many])
        self.assertEqual(read(crate), kept[crate])

    def test_just_those_that_end_with_a_round_are_crates(self):
        trees = ((A, F), (A, G, L), (), (A, F, H), (N,))
        crate = crate_of(trees[0])
        kept = {crate: trees[0]}
        for tree in trees[1:]:
            crate = changed(crate, tree)
            kept[crate] = tree
        self.check_beginnings(crate, kept)

    def test_of_a_crate_by_hand(self):
        self.check_beginnings(three_rounds()[2], dict(zip(three_rounds(), ((A, F), (A, G, L), (A, F)))))

    def test_where_a_body_holds_the_bytes_of_a_crate(self):
        inner = changed(crate_of((A,)), ())
        files = (
            ("file", "end", inner[3:]), ("file", "list", inner[inner.index(9):]), ("file", "piece", by_hand.piece(A)),
            ("file", "whole", inner),
        )
        crate = by_hand.crate(files)
        again = by_hand.with_round(crate, [], [])
        self.check_beginnings(again, {crate: files, again: ()})
        self.assertEqual(taken(crate, "whole")[2], inner)

    def test_where_a_body_holds_a_round_that_would_be_right_at_its_place(self):
        # Up to the end in the body all would be right, were it not inside of a piece; 50, 71 were searched for that.
        body = by_hand.listing([("a", 3)]) + by_hand.fixed(18, 4) + by_hand.fixed(3, 4) + (50, 71, 0)
        tree = (A, ("file", "b", body))
        crate = by_hand.crate(tree)
        self.assertEqual(crate[18:18 + len(body)], body)
        self.assertEqual(crate[31:33], by_hand.fixed(by_hand.check(crate[:31]), 2))
        self.check_beginnings(crate, {crate: tree})


if __name__ == "__main__":
    unittest.main()
