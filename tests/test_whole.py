"""Promises 0.3 and 0.4, and the interface, for all that has landed."""

import copy
import inspect
import unittest

from filecrate import checks, crates, links, numbers, paths, pressing, rescue, sums, trees, volumes
from filecrate.desks import Desk
from filecrate.errors import CrateError

INTERFACE = (
    (numbers, "number_bytes", ["n"]),
    (numbers, "read_number", ["some", "at"]),
    (numbers, "fixed_bytes", ["n", "many"]),
    (numbers, "read_fixed", ["some", "at", "many"]),
    (sums, "sum_of", ["body"]),
    (sums, "sum_on", ["before", "body"]),
    (sums, "sum_joined", ["one", "other", "many"]),
    (sums, "sum_changed", ["before", "many", "place", "old", "new"]),
    (checks, "check_of", ["some"]),
    (checks, "check_on", ["before", "some"]),
    (pressing, "pressed", ["kind", "body"]),
    (pressing, "unpressed", ["kind", "some"]),
    (pressing, "best_kind", ["body"]),
    (paths, "is_path", ["thing"]),
    (paths, "clean", ["text"]),
    (paths, "above", ["path"]),
    (paths, "way_between", ["folder", "goal"]),
    (trees, "is_entry", ["thing"]),
    (trees, "is_tree", ["thing"]),
    (trees, "tree_of", ["entries"]),
    (trees, "under", ["tree", "path"]),
    (trees, "put_under", ["tree", "path", "part"]),
    (trees, "differences", ["one", "other"]),
    (links, "landing", ["tree", "path"]),
    (links, "ways_out", ["tree"]),
    (crates, "crate_of", ["tree"]),
    (crates, "read", ["crate"]),
    (crates, "listed", ["crate"]),
    (crates, "taken", ["crate", "path"]),
    (crates, "changed", ["crate", "tree"]),
    (crates, "rounds", ["crate"]),
    (crates, "earlier", ["crate"]),
    (crates, "history", ["crate", "path"]),
    (crates, "spare_bytes", ["crate"]),
    (crates, "squeezed", ["crate"]),
    (rescue, "rescued", ["some"]),
    (volumes, "shared", ["some", "most"]),
    (volumes, "joined", ["volumes"]),
    (volumes, "said", ["volume"]),
)

BODY = tuple(k % 256 for k in range(1000))
BYTES = tuple(k * 7 % 256 for k in range(20000))

TREE = (
    ("folder", "a"), ("file", "a-b", BODY), ("folder", "a/b"), ("link", "a/b/up", "../.."), ("file", "a/f", (1, 2)),
    ("link", "out", "../a"), ("link", "way", "a/b"),
)
PART = (("file", "x", ()), ("folder", "y"))

CRATE = crates.changed(crates.changed(crates.crate_of(TREE), PART), TREE[:2])
VOLUMES = volumes.shared(CRATE, 100)

# A thing of all kinds that may be asked of, lists among them.
THING = [("folder", "a"), ["file", "a", [1, True, None]], [[["a"]]], (), 5]

# How a function is asked, and what it tells, as told in KINDS.
CALLS = (
    (numbers.number_bytes, (0,), "bytes"),
    (numbers.number_bytes, (128,), "bytes"),
    (numbers.number_bytes, (4398046511103,), "bytes"),
    (numbers.read_number, ((9, 172, 2, 9), 1), "pair"),
    (numbers.read_number, ((0,), 0), "pair"),
    (numbers.read_number, (BYTES[:-1] + (5,), 19999), "pair"),
    (numbers.fixed_bytes, (0, 1), "bytes"),
    (numbers.fixed_bytes, (65535, 6), "bytes"),
    (numbers.read_fixed, ((9, 1, 2, 9), 1, 2), "pair"),
    (numbers.read_fixed, ((0,), 0, 1), "pair"),
    (numbers.read_fixed, (BYTES, 19994, 6), "pair"),
    (sums.sum_of, ((),), "number"),
    (sums.sum_of, (BODY,), "number"),
    (sums.sum_on, (1, ()), "number"),
    (sums.sum_on, (65537, BODY), "number"),
    (sums.sum_joined, (1, 1, 0), "number"),
    (sums.sum_joined, (65537, 16777472, 1), "number"),
    (sums.sum_changed, (65537, 1, 0, 0, 255), "number"),
    (sums.sum_changed, (65537, 1, 0, 0, 0), "number"),
    (checks.check_of, ((),), "number"),
    (checks.check_of, ((0,),), "number"),
    (checks.check_of, (BYTES,), "number"),
    (checks.check_on, (0, (0,)), "number"),
    (checks.check_on, (65535, BYTES), "number"),
    (pressing.pressed, (0, BODY), "bytes"),
    (pressing.pressed, (1, BODY), "bytes"),
    (pressing.pressed, (2, BODY), "bytes"),
    (pressing.pressed, (1, ()), "bytes"),
    (pressing.pressed, (2, ()), "bytes"),
    (pressing.unpressed, (0, BODY), "bytes"),
    (pressing.unpressed, (1, (1, 9, 8, 130, 1)), "bytes"),
    (pressing.unpressed, (2, (3, 1, 1, 2, 2, 3, 2, 4, 200)), "bytes"),
    (pressing.unpressed, (2, (0, 0)), "bytes"),
    (pressing.best_kind, (BODY,), "number"),
    (pressing.best_kind, ((),), "number"),
    (paths.is_path, ("a/b",), "truth"),
    (paths.is_path, (THING,), "truth"),
    (paths.clean, ("./a/../b//c",), "text"),
    (paths.above, ("a",), "texts"),
    (paths.above, ("a/b/c",), "texts"),
    (paths.way_between, ("", "a"), "text"),
    (paths.way_between, ("a/b", "a/c"), "text"),
    (paths.way_between, ("a", "a"), "text"),
    (trees.is_entry, (("file", "a", BODY),), "truth"),
    (trees.is_entry, (THING,), "truth"),
    (trees.is_entry, (["file", "a", [1]],), "truth"),
    (trees.is_tree, (TREE,), "truth"),
    (trees.is_tree, (THING,), "truth"),
    (trees.is_tree, ((["folder", "a"], ("file", "b", [1])),), "truth"),
    (trees.tree_of, ((),), "tree"),
    (trees.tree_of, (TREE[::-1] + (("file", "x/./y", (3,)), ("link", "x/z", "y")),), "tree"),
    (trees.under, (TREE, "a"), "tree"),
    (trees.under, (TREE, "a/b"), "tree"),
    (trees.put_under, (TREE, "a", PART), "tree"),
    (trees.put_under, (TREE, "a", ()), "tree"),
    (trees.differences, (TREE, PART), "rows"),
    (trees.differences, (TREE, TREE), "rows"),
    (links.landing, (TREE, "way"), "text"),
    (links.landing, (TREE, "way/up"), "text"),
    (links.ways_out, (TREE,), "texts"),
    (crates.crate_of, (TREE,), "bytes"),
    (crates.crate_of, ((),), "bytes"),
    (crates.read, (CRATE,), "tree"),
    (crates.read, (crates.crate_of(()),), "tree"),
    (crates.listed, (CRATE,), "listed"),
    (crates.taken, (CRATE, "a"), "entry"),
    (crates.taken, (CRATE, "a-b"), "entry"),
    (crates.changed, (CRATE, PART), "bytes"),
    (crates.rounds, (CRATE,), "number"),
    (crates.earlier, (CRATE,), "bytes"),
    (crates.earlier, (crates.crate_of(TREE),), "none"),
    (crates.history, (CRATE, "x"), "history"),
    (crates.history, (CRATE, "a/f"), "history"),
    (crates.spare_bytes, (CRATE,), "number"),
    (crates.spare_bytes, (crates.crate_of(()),), "number"),
    (crates.squeezed, (CRATE,), "bytes"),
    (rescue.rescued, (CRATE,), "entries"),
    (rescue.rescued, (CRATE[:-30],), "entries"),
    (rescue.rescued, (BYTES,), "entries"),
    (volumes.shared, (CRATE, 100), "volumes"),
    (volumes.shared, (BYTES, 1000), "volumes"),
    (volumes.joined, (VOLUMES,), "bytes"),
    (volumes.joined, (VOLUMES[:0:-1],), "bytes"),
    (volumes.said, (VOLUMES[3],), "pair"),
)

REFUSED = (
    (numbers.read_number, ((128,), 0)),
    (numbers.read_number, ((128, 0), 0)),
    (numbers.read_fixed, ((1,), 0, 2)),
    (pressing.unpressed, (0, BODY + (1,))),
    (pressing.unpressed, (1, (0, 9, 128, 1))),
    (pressing.unpressed, (2, (1, 65, 1, 1, 128))),
    (paths.clean, ("/a",)),
    (paths.clean, ("a/B",)),
    (trees.tree_of, ((("file", "a", ()), ("file", "a/b", ())),)),
    (trees.under, (TREE, "nothing")),
    (trees.put_under, (TREE, "a-b", PART)),
    (trees.put_under, (TREE, "a", trees.tree_of((("folder", "1/2/3/4/5/6/7/8"),)))),
    (links.landing, (TREE, "out")),
    (links.landing, (TREE, "a/f/x")),
    (links.landing, ((("link", "a", "a"),), "a")),
    (crates.read, (CRATE[:-1],)),
    (crates.taken, (CRATE, "x")),
    (crates.changed, (CRATE[1:], TREE)),
    (volumes.said, (VOLUMES[0][:-1],)),
    (volumes.joined, (VOLUMES[2:],)),
    (volumes.joined, ((),)),
    (Desk, (BYTES,)),
)


def is_number(thing):
    # A truth is an int for Python, but no whole number.
    return type(thing) is int


def is_row(thing, is_part):
    return type(thing) is tuple and all(is_part(part) for part in thing)


def is_text(thing):
    return type(thing) is str


def is_listed(row):
    return type(row) is tuple and [type(part) for part in row] == [str, str, int, int]


KINDS = {
    "number": is_number,
    "truth": lambda told: told is True or told is False,
    "text": is_text,
    "bytes": lambda told: is_row(told, lambda part: is_number(part) and 0 <= part <= 255),
    "pair": lambda told: is_row(told, is_number) and len(told) == 2,
    "texts": lambda told: is_row(told, is_text),
    "tree": trees.is_tree,
    "none": lambda told: told is None,
    "entry": trees.is_entry,
    "entries": lambda told: is_row(told, trees.is_entry),
    "history": lambda told: is_row(told, lambda entry: entry is None or trees.is_entry(entry)),
    "listed": lambda told: is_row(told, is_listed),
    "volumes": lambda told: is_row(told, KINDS["bytes"]),
    "rows": lambda told: is_row(told, lambda row: is_row(row, is_text) and len(row) == 2),
}


class WholeTest(unittest.TestCase):
    def test_names_and_arguments_are_as_the_interface_says(self):
        for module, name, arguments in INTERFACE:
            with self.subTest(name=name):
                self.assertEqual(list(inspect.signature(getattr(module, name)).parameters), arguments)

    def test_each_function_is_asked_here(self):
        asked = {call[0] for call in CALLS}
        self.assertEqual(asked, {getattr(module, name) for module, name, arguments in INTERFACE})

    def test_what_is_told_is_of_its_kind(self):
        for function, handed_in, kind in CALLS:
            with self.subTest(function=function.__name__, handed_in=str(handed_in)[:60]):
                self.assertTrue(KINDS[kind](function(*handed_in)))

    def test_what_is_handed_in_is_not_changed_and_the_same_is_told_again(self):
        for function, handed_in, kind in CALLS:
            with self.subTest(function=function.__name__, handed_in=str(handed_in)[:60]):
                kept = copy.deepcopy(handed_in)
                first = function(*handed_in)
                self.assertEqual(handed_in, kept)
                self.assertEqual(function(*handed_in), first)
                self.assertEqual(function(*kept), first)

    def test_the_same_is_told_again_after_all_others_were_asked(self):
        first = [function(*handed_in) for function, handed_in, kind in CALLS]
        again = [function(*handed_in) for function, handed_in, kind in reversed(CALLS)]
        self.assertEqual(first, again[::-1])

    def test_the_same_refusal_is_told_again_and_changes_nothing(self):
        for function, handed_in in REFUSED:
            with self.subTest(function=function.__name__, handed_in=str(handed_in)[:60]):
                kept = copy.deepcopy(handed_in)
                first = self.refusal(function, handed_in)
                self.assertEqual(handed_in, kept)
                self.assertIs(self.refusal(function, handed_in), first)

    def test_the_names_of_arguments_can_be_used(self):
        arguments = {name: names for module, name, names in INTERFACE}
        for function, handed_in, kind in CALLS:
            with self.subTest(function=function.__name__):
                by_name = dict(zip(arguments[function.__name__], handed_in))
                self.assertEqual(function(**by_name), function(*handed_in))

    def refusal(self, function, handed_in):
        with self.assertRaises(CrateError) as caught:
            function(*handed_in)
        return type(caught.exception)


if __name__ == "__main__":
    unittest.main()
