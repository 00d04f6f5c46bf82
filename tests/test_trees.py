"""Promises 3.3 and 3.4."""

import itertools
import random
import unittest

from filecrate.errors import BadPath, Clash, LeadsOut, NoEntry, NotFolder
from filecrate.trees import differences, is_entry, is_tree, put_under, tree_of, under

BODY = tuple(k % 256 for k in range(1000))

ENTRIES = (
    ("folder", "a"),
    ("folder", "a/b/c/d/e/f/g/h"),
    ("file", "a", ()),
    ("file", "a.txt", (0,)),
    ("file", "a", (255, 0, 7)),
    ("file", "a", BODY),
    ("link", "a", "b"),
    ("link", "a", ".."),
    ("link", "a", "../.."),
    ("link", "a", "../b/../c"),
    ("link", "a", "b/c"),
    ("link", "a", "a"),
    ("link", "a", "..."),
    ("link", "a", "/".join([".."] * 8)),
    ("link", "a", "/".join(["abcdefghijkl"] * 8)),
)

NO_ENTRIES = (
    (), ("folder",), ("file",), ("a",), ("folder", ""), ("folder", "/a"), ("folder", "a/"), ("folder", "A"), ("folder", ".."),
    ("folder", "."), ("folder", "a/../b"), ("folder", "a/b/c/d/e/f/g/h/i"), ("folder", "a", ()), ("folder", "a", "b"),
    ("folder", "a", None), ("Folder", "a"), ("", "a"), (None, "a"), (True, "a"), (0, "a"), ("folder", None), ("folder", 1),
    ("folder", True), ("folder", ("a",)), ("folder", ["a"]), (["folder"], "a"), (("folder",), "a"), ["folder", "a"], "folder",
    "a", ("a", "folder"),
    ("file", "a"), ("link", "a"), ("file", "A", ()), ("file", "", ()), ("file", "a", (), ()), ("file", (), "a"),
    ("file", "a", "b"), ("file", "a", None), ("file", "a", 5), ("file", "a", True), ("file", "a", []), ("file", "a", [1]),
    ("file", "a", (256,)), ("file", "a", (-1,)), ("file", "a", (1, 2, 256)), ("file", "a", (True,)), ("file", "a", (1, False)),
    ("file", "a", (None,)), ("file", "a", ("1",)), ("file", "a", ("",)), ("file", "a", ((1,),)), ("file", "a", ([1],)),
    ("file", "a", (1, 2, ())), ("file", "a", BODY + (0,)), ("file", "a", (10 ** 30,)), ["file", "a", (1,)], ("folder", "a", (1,)),
    ("link", "A", "b"), ("link", "a", ""), ("link", "a", "."), ("link", "a", "./b"), ("link", "a", "/b"), ("link", "a", "b/"),
    ("link", "a", "b//c"), ("link", "a", "../"), ("link", "a", "/.."), ("link", "a", "B"), ("link", "a", "b/./c"),
    ("link", "a", "abcdefghijklm"), ("link", "a", "/".join([".."] * 9)), ("link", "a", "/".join(["b"] * 9)),
    ("link", "a", ()), ("link", "a", (1,)), ("link", "a", None), ("link", "a", 5), ("link", "a", ["b"]), ("link", "a", ("b",)),
    ("link", "a", "b", "c"), ["link", "a", "b"], ("links", "a", "b"), ("link ", "a", "b"), (["link"], "a", "b"),
    (None, "a", ()), (True, "a", ()), (2, "a", ()), ("folder", "a", "b", "c"),
)

TREES = (
    (),
    (("folder", "a"),),
    (("file", "a", ()),),
    (("link", "a", "nowhere"),),
    (("file", "a", (1,)), ("file", "b", (1,))),
    (("folder", "a"), ("file", "a/b", (1, 2))),
    # The signs - and . are ahead of the stroke, so these stand between a folder and what is below it.
    (("folder", "a"), ("file", "a-b", ()), ("file", "a.b", ()), ("file", "a/b", ()), ("file", "a0", ()), ("file", "a_", ())),
    (("folder", "a"), ("folder", "a/b"), ("folder", "a/b/c"), ("link", "a/b/c/d", "../../.."), ("file", "b", BODY)),
    tuple(("folder", "/".join("abcdefgh"[:many])) for many in range(1, 9)),
    tuple(("file", f"f{number:02}", (number,)) for number in range(100)),
)

NO_TREES = (
    (("file", "b", ()), ("file", "a", ())),
    (("file", "a", ()), ("file", "a", ())),
    (("folder", "a"), ("file", "a", ())),
    (("file", "a", ()), ("file", "a", (1,))),
    (("file", "a/b", ()),),
    (("file", "a", ()), ("file", "a/b", ())),
    (("link", "a", "b"), ("file", "a/b", ()), ("folder", "b")),
    (("folder", "a"), ("file", "a/b/c", ())),
    (("folder", "a"), ("file", "a/b", ()), ("file", "a/b/c", ())),
    (("folder", "a/b"), ("file", "a/b/c", ())),
    (("folder", "a"), ("file", "a/b", ()), ("file", "a-b", ())),
    (("folder", "a"), ("file", "a0", ()), ("file", "a/b", ())),
    tuple(("file", f"f{number:03}", ()) for number in range(101)),
    [("folder", "a")],
    (["folder", "a"],),
    (("folder", "A"),),
    (("file", "a", (True,)),),
    (("file", "a", [1]),),
    (("file", "a", BODY + (1,)),),
    (("link", "a", "."),),
    ((),),
    (None,),
    (True,),
    (5,),
    ("a",),
    ("folder", "a"),
    ("file", "a", ()),
    (((("folder", "a"),),),),
    (("folder", "a"), None),
    (("folder", "a"), "b"),
)


def deep(thing, times, kind):
    for k in range(times):
        thing = kind([thing])
    return thing


THINGS = (
    None, True, False, 0, 1, -1, 10 ** 30, "", "a", "folder", [], [[]], ["a"], [1, None, (True, [])],
    deep(0, 30, list), deep(0, 30, tuple), deep("a", 35, tuple), deep([], 30, tuple), deep((), 35, list),
)


def right_tree():
    return tree_of((
        ("folder", "empty"), ("file", "src/main/a.py", (1, 2)), ("file", "src/b.py", ()), ("link", "src/main/up", ".."),
        ("file", "src-old", (9,)), ("link", "way", "src/main/a.py"), ("file", "z/y/x/w/v/u/t/s", (5,)),
    ))


class IsEntryTest(unittest.TestCase):
    def test_entries(self):
        for entry in ENTRIES:
            with self.subTest(entry=str(entry)[:60]):
                self.assertIs(is_entry(entry), True)

    def test_others(self):
        for thing in NO_ENTRIES + THINGS:
            with self.subTest(thing=str(thing)[:60]):
                self.assertIs(is_entry(thing), False)

    def test_each_number_as_a_byte(self):
        for number in range(-3, 300):
            self.assertIs(is_entry(("file", "a", (0, number))), 0 <= number <= 255, number)

    def test_a_tree_is_no_entry(self):
        for tree in TREES:
            self.assertIs(is_entry(tree), False)


class IsTreeTest(unittest.TestCase):
    def test_trees(self):
        for tree in TREES + (right_tree(),):
            with self.subTest(tree=str(tree)[:60]):
                self.assertIs(is_tree(tree), True)

    def test_others(self):
        for thing in NO_TREES + THINGS:
            with self.subTest(thing=str(thing)[:60]):
                self.assertIs(is_tree(thing), False)

    def test_spoilt_entries_in_a_tree(self):
        for thing in NO_ENTRIES + THINGS:
            with self.subTest(thing=str(thing)[:60]):
                self.assertIs(is_tree((thing,)), False)
                self.assertIs(is_tree((("folder", "0"), thing)), False)

    def test_an_entry_left_out(self):
        tree = right_tree()
        for place, entry in enumerate(tree):
            needed = any(other[1].startswith(entry[1] + "/") for other in tree)
            self.assertIs(is_tree(tree[:place] + tree[place + 1:]), not needed, entry)

    def test_an_entry_said_twice_or_put_elsewhere(self):
        tree = right_tree()
        for place, entry in enumerate(tree):
            rest = tree[:place] + tree[place + 1:]
            for at in range(len(rest) + 1):
                self.assertIs(is_tree(rest[:at] + (entry,) + rest[at:]), at == place)
            for at in range(len(tree) + 1):
                self.assertIs(is_tree(tree[:at] + (entry,) + tree[at:]), False)

    def test_a_list_in_the_place_of_a_tuple(self):
        tree = right_tree()
        self.assertIs(is_tree(list(tree)), False)
        for place, entry in enumerate(tree):
            self.assertIs(is_tree(tree[:place] + (list(entry),) + tree[place + 1:]), False)
            if entry[0] == "file":
                spoilt = ("file", entry[1], list(entry[2]))
                self.assertIs(is_tree(tree[:place] + (spoilt,) + tree[place + 1:]), False)

    def test_a_truth_in_the_place_of_a_number(self):
        tree = right_tree()
        for place, entry in enumerate(tree):
            for part in range(len(entry)):
                for truth in (True, False, None):
                    spoilt = entry[:part] + (truth,) + entry[part + 1:]
                    self.assertIs(is_tree(tree[:place] + (spoilt,) + tree[place + 1:]), False)
            if entry[0] == "file" and entry[2]:
                spoilt = ("file", entry[1], (True,) + entry[2][1:])
                self.assertIs(is_tree(tree[:place] + (spoilt,) + tree[place + 1:]), False)

    def test_another_kind_above(self):
        tree = right_tree()
        for place, entry in enumerate(tree):
            if entry[0] == "folder" and entry[1] != "empty":
                for other in (("file", entry[1], ()), ("link", entry[1], "empty")):
                    self.assertIs(is_tree(tree[:place] + (other,) + tree[place + 1:]), False)

    def test_all_rows_of_few_entries(self):
        some = (
            ("folder", "a"), ("file", "a", ()), ("folder", "a/b"), ("link", "a/b", "c"), ("file", "a/b/c", (1,)), ("file", "a-", ()),
        )
        for many in range(4):
            for row in itertools.product(some, repeat=many):
                paths = [entry[1] for entry in row]
                folders = [entry[1] for entry in row if entry[0] == "folder"]
                right = paths == sorted(set(paths)) and all(
                    path[:place] in folders for path in paths for place, sign in enumerate(path) if sign == "/"
                )
                self.assertIs(is_tree(row), right, row)


class TreeOfTest(unittest.TestCase):
    def test_trees(self):
        for entries, tree in (
            ((), ()),
            ((("folder", "a"),), (("folder", "a"),)),
            ((("file", "b", (1,)), ("file", "a", (2,))), (("file", "a", (2,)), ("file", "b", (1,)))),
            # Texts are made clean, goals stay as they are.
            ((("link", "./a//b/../c/", "../x"),), (("folder", "a"), ("link", "a/c", "../x"))),
            # Folders that lack.
            (
                (("file", "a/b/c/d", (1,)),),
                (("folder", "a"), ("folder", "a/b"), ("folder", "a/b/c"), ("file", "a/b/c/d", (1,))),
            ),
            ((("file", "a/b", ()), ("folder", "a")), (("folder", "a"), ("file", "a/b", ()))),
            # Of one path the last one counts.
            ((("file", "a", (1,)), ("file", "a", (2,))), (("file", "a", (2,)),)),
            ((("file", "a", (1,)), ("folder", "./a")), (("folder", "a"),)),
            ((("folder", "a"), ("link", "b/../a", "c")), (("link", "a", "c"),)),
            ((("file", "a", ()), ("link", "a", "b"), ("file", "a", (3,))), (("file", "a", (3,)),)),
            # No clash, since the file does not count.
            ((("file", "a", ()), ("file", "a/b", ()), ("folder", "a")), (("folder", "a"), ("file", "a/b", ()))),
            # What only a text leads over is not put in.
            ((("file", "x/y/../../a", ()),), (("file", "a", ()),)),
            (
                (("file", "a/b", ()), ("file", "a-b", ()), ("file", "a0", ())),
                (("folder", "a"), ("file", "a-b", ()), ("file", "a/b", ()), ("file", "a0", ())),
            ),
        ):
            with self.subTest(entries=entries):
                self.assertEqual(tree_of(entries), tree)
                self.assertTrue(is_tree(tree_of(entries)))

    def test_the_tree_of_a_tree_is_itself(self):
        for tree in TREES + (right_tree(),):
            self.assertEqual(tree_of(tree), tree)
            self.assertEqual(tree_of(tree[::-1]), tree)

    def test_a_hundred_entries(self):
        entries = tuple(("file", f"f{number:02}", (number,)) for number in range(99, -1, -1))
        self.assertEqual(tree_of(entries), entries[::-1])
        more = tuple(("file", f"d/f{number:03}", ()) for number in range(102))
        self.assertEqual(len(tree_of(more)), 103)

    def test_clash(self):
        for entries in (
            (("file", "a", ()), ("file", "a/b", ())),
            (("file", "a/b", ()), ("file", "a", ())),
            (("link", "a", "b"), ("file", "a/b", ()), ("folder", "b")),
            (("file", "a", ()), ("folder", "a/b/c")),
            (("link", "a/b", "c"), ("file", "a/b/c/d/e", ())),
            (("folder", "a"), ("file", "a/b", ()), ("file", "a", ())),
            (("file", "a", ()), ("file", "x/../a/b", ())),
        ):
            with self.subTest(entries=entries):
                self.assertRaises(Clash, tree_of, entries)

    def test_refusals_of_clean_the_first_one_first(self):
        for entries, refusal in (
            ((("folder", "/a"),), LeadsOut),
            ((("folder", ".."),), LeadsOut),
            ((("folder", ""),), BadPath),
            ((("file", "A", ()),), BadPath),
            ((("link", "a/..", "b"),), BadPath),
            ((("file", "a/b/c/d/e/f/g/h/i", ()),), BadPath),
            ((("folder", "a"), ("folder", "../a"), ("folder", "A")), LeadsOut),
            ((("folder", "a"), ("folder", "A"), ("folder", "../a")), BadPath),
            # A clash comes only behind them.
            ((("file", "a", ()), ("file", "a/b", ()), ("folder", "A")), BadPath),
            ((("file", "a", ()), ("file", "a/b", ()), ("folder", "/a")), LeadsOut),
        ):
            with self.subTest(entries=entries):
                self.assertRaises(refusal, tree_of, entries)

    def test_drawn_entries(self):
        source = random.Random(4)
        for k in range(500):
            entries = tuple(drawn_entry(source) for j in range(source.randrange(8)))
            last = {entry[1]: entry for entry in entries}
            folders = {path[:place] for path in last for place, sign in enumerate(path) if sign == "/"}
            if any(last.get(path, ("folder",))[0] != "folder" for path in folders):
                self.assertRaises(Clash, tree_of, entries)
                continue
            last.update({path: ("folder", path) for path in folders})
            self.assertEqual(tree_of(entries), tuple(last[path] for path in sorted(last)))


def drawn_entry(source):
    path = "/".join(source.choice(("a", "b", "a-", "0")) for k in range(source.randrange(1, 4)))
    kind = source.choice(("folder", "folder", "file", "link"))
    return {"folder": ("folder", path), "file": ("file", path, (source.randrange(3),)), "link": ("link", path, "..")}[kind]


class UnderTest(unittest.TestCase):
    def test_at_folders(self):
        tree = right_tree()
        for path, told in (
            ("empty", ()),
            ("src", (
                ("file", "b.py", ()), ("folder", "main"), ("file", "main/a.py", (1, 2)), ("link", "main/up", ".."),
            )),
            ("src/main", (("file", "a.py", (1, 2)), ("link", "up", ".."))),
            ("z/y/x/w/v/u/t", (("file", "s", (5,)),)),
        ):
            with self.subTest(path=path):
                self.assertEqual(under(tree, path), told)
                self.assertTrue(is_tree(under(tree, path)))

    def test_only_what_is_below(self):
        tree = (
            ("folder", "a"), ("file", "a-b", ()), ("folder", "a/a"), ("file", "a/a/a", (1,)), ("file", "aa", ()), ("folder", "b"),
            ("folder", "b/a"), ("file", "b/a/c", ()),
        )
        self.assertTrue(is_tree(tree))
        self.assertEqual(under(tree, "a"), (("folder", "a"), ("file", "a/a", (1,))))
        self.assertEqual(under(tree, "a/a"), (("file", "a", (1,)),))
        self.assertEqual(under(tree, "b"), (("folder", "a"), ("file", "a/c", ())))

    def test_refusals(self):
        tree = right_tree()
        for path in ("nothing", "src/nothing", "sr", "src/main/a", "way/a", "src/b.py/c", "empty/a", "main"):
            with self.subTest(path=path):
                self.assertRaises(NoEntry, under, tree, path)
        for path in ("src-old", "src/b.py", "way", "src/main/up", "src/main/a.py"):
            with self.subTest(path=path):
                self.assertRaises(NotFolder, under, tree, path)
        self.assertRaises(NoEntry, under, (), "a")


class PutUnderTest(unittest.TestCase):
    def test_what_was_below_is_gone_and_all_else_stays(self):
        tree = right_tree()
        part = (("file", "0", (7,)), ("folder", "d"), ("link", "d/e", "../x"))
        for path in ("empty", "src", "src/main", "z", "z/y"):
            told = put_under(tree, path, part)
            with self.subTest(path=path):
                self.assertTrue(is_tree(told))
                self.assertEqual(under(told, path), part)
                self.assertEqual(
                    [entry for entry in told if not entry[1].startswith(path + "/")],
                    [entry for entry in tree if not entry[1].startswith(path + "/")],
                )

    def test_written_out(self):
        tree = (("folder", "a"), ("file", "a-b", ()), ("file", "a/b", (1,)), ("file", "a0", ()))
        self.assertEqual(
            put_under(tree, "a", (("folder", "c"), ("link", "c/d", ".."))),
            (("folder", "a"), ("file", "a-b", ()), ("folder", "a/c"), ("link", "a/c/d", ".."), ("file", "a0", ())),
        )
        self.assertEqual(put_under(tree, "a", ()), (("folder", "a"), ("file", "a-b", ()), ("file", "a0", ())))

    def test_what_is_under_put_there_again_is_the_same_tree(self):
        tree = right_tree()
        for entry in tree:
            if entry[0] == "folder":
                self.assertEqual(put_under(tree, entry[1], under(tree, entry[1])), tree)

    def test_refusals(self):
        tree = right_tree()
        for path in ("nothing", "src/nothing", "sr", "way/a", "src/b.py/c"):
            self.assertRaises(NoEntry, put_under, tree, path, ())
        for path in ("src-old", "src/b.py", "way", "src/main/up"):
            self.assertRaises(NotFolder, put_under, tree, path, ())

    def test_more_than_eight_parts(self):
        tree = right_tree()
        seven = tree_of((("file", "1/2/3/4/5/6/7", ()),))
        eight = tree_of((("folder", "1/2/3/4/5/6/7/8"),))
        self.assertEqual(under(put_under(tree, "src", seven), "src"), seven)
        self.assertRaises(BadPath, put_under, tree, "src", eight)
        self.assertRaises(BadPath, put_under, tree, "src/main", seven)
        self.assertEqual(under(put_under(tree, "z/y/x/w/v/u/t", (("folder", "a"),)), "z/y/x/w/v/u/t"), (("folder", "a"),))
        self.assertRaises(BadPath, put_under, tree, "z/y/x/w/v/u/t", (("folder", "a"), ("link", "a/b", "c")))
        whole = tree_of((("folder", "1/2/3/4/5/6/7/8"),))
        self.assertEqual(put_under(whole, "1/2/3/4/5/6/7/8", ()), whole)
        self.assertRaises(BadPath, put_under, whole, "1/2/3/4/5/6/7/8", (("folder", "9"),))

    def test_the_first_refusal_is_told(self):
        eight = tree_of((("folder", "1/2/3/4/5/6/7/8"),))
        self.assertRaises(NoEntry, put_under, right_tree(), "nothing", eight)
        self.assertRaises(NotFolder, put_under, right_tree(), "way", eight)

    def test_a_hundred_together(self):
        part = tuple(("file", f"f{number:02}", ()) for number in range(99))
        told = put_under((("folder", "a"),), "a", part)
        self.assertEqual(len(told), 100)
        self.assertTrue(is_tree(told))
        self.assertEqual(len(put_under((("folder", "a"), ("folder", "b"), ("folder", "c")), "b", part)), 102)


class DifferencesTest(unittest.TestCase):
    def test_written_out(self):
        one = (
            ("folder", "a"), ("file", "a-b", (1,)), ("file", "a/b", (1,)), ("link", "c", "a"), ("file", "d", ()), ("folder", "e"),
        )
        other = (
            ("folder", "a"), ("file", "a-b", (2,)), ("file", "a/c", (1,)), ("link", "c", "d"), ("file", "d", ()), ("file", "e", ()),
            ("folder", "f"),
        )
        self.assertEqual(differences(one, other), (
            ("other", "a-b"), ("gone", "a/b"), ("new", "a/c"), ("other", "c"), ("other", "e"), ("new", "f"),
        ))
        self.assertEqual(differences(other, one), (
            ("other", "a-b"), ("new", "a/b"), ("gone", "a/c"), ("other", "c"), ("other", "e"), ("gone", "f"),
        ))

    def test_none(self):
        for tree in TREES + (right_tree(),):
            self.assertEqual(differences(tree, tree), ())
            self.assertEqual(differences((), tree), tuple(("new", entry[1]) for entry in tree))
            self.assertEqual(differences(tree, ()), tuple(("gone", entry[1]) for entry in tree))

    def test_both_ways_round(self):
        turned = {"gone": "new", "new": "gone", "other": "other"}
        trees = TREES + (right_tree(),)
        for one in trees:
            for other in trees:
                told = differences(one, other)
                self.assertEqual(told, tuple((turned[word], path) for word, path in differences(other, one)))
                self.assertEqual([path for word, path in told], sorted({path for word, path in told}))
                same = {entry[1] for entry in one + other} - {path for word, path in told}
                self.assertEqual([e for e in one if e[1] in same], [e for e in other if e[1] in same])
                for word, path in told:
                    ones = [entry for entry in one if entry[1] == path]
                    others = [entry for entry in other if entry[1] == path]
                    self.assertNotEqual(ones, others)
                    self.assertEqual(word, "gone" if not others else "new" if not ones else "other")


if __name__ == "__main__":
    unittest.main()
