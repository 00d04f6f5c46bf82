"""Promises 6.1, 6.2 and 0.2 (f)."""

import inspect
import random
import unittest

import by_hand
from some_trees import BODIES, TREES, random_entry, random_path, random_tree

from filecrate.crates import changed, crate_of, earlier, history, read, rounds
from filecrate.desks import Desk
from filecrate.errors import BadCrate, BadPath, Clash, CrateError, NoEntry, NotFolder, NothingBack
from filecrate.trees import is_tree, tree_of

TREE = tree_of((
    ("file", "a/b/f", (1, 2)), ("link", "a/l", "b/f"), ("file", "a-b", (3,)), ("file", "a.b/x", (4,)), ("file", "ab", ()),
    ("link", "way", "a"), ("folder", "empty"),
))
DEEP = tree_of((("folder", "1/2/3/4/5/6/7"), ("file", "f", ()), ("file", "t/u/v", (5,)), ("link", "k", "f")))


def by_path(tree):
    return {entry[1]: entry for entry in tree}


class ByHandDesk:
    """A desk by hand: all deeds that count are kept, and done anew from the first tree on."""

    def __init__(self, tree):
        self.first = by_path(tree)
        self.deeds = []
        self.again = []

    def now(self):
        entries = dict(self.first)
        for deed in self.deeds:
            entries = deed(entries)
        return tuple(entries[path] for path in sorted(entries))

    def folder_refusal(self, entries, path):
        folder = path.rpartition("/")[0]
        if folder == "":
            return None
        if folder not in entries:
            return NoEntry
        return None if entries[folder][0] == "folder" else NotFolder

    def below(self, entries, path):
        many = path.count("/") + 1
        return [other for other in entries if other != path and other.split("/")[:many] == path.split("/")]

    def do(self, refusals, deed):
        """The first refusal that is due; if none is, the deed counts."""
        for refusal in refusals:
            if refusal is not None:
                return refusal
        self.deeds.append(deed)
        self.again = []
        return None

    def put(self, entry):
        entries = by_path(self.now())
        clash = entry[0] != "folder" and self.below(entries, entry[1])
        deed = lambda before: {**before, entry[1]: entry}
        return self.do([self.folder_refusal(entries, entry[1]), Clash if clash else None], deed)

    def drop(self, path):
        entries = by_path(self.now())
        gone = [path] + self.below(entries, path)
        deed = lambda before: {other: before[other] for other in before if other not in gone}
        return self.do([None if path in entries else NoEntry], deed)

    def move(self, path, goal):
        entries = by_path(self.now())
        names = {other: goal + other[len(path):] for other in [path] + self.below(entries, path)}
        clash = goal in entries or self.below([goal], path)
        deep = any(name.count("/") > 7 for name in names.values())
        refusals = [
            None if path in entries else NoEntry, Clash if clash else None, self.folder_refusal(entries, goal),
            BadPath if deep else None,
        ]

        def deed(before):
            told = {other: before[other] for other in before if other not in names}
            for other, name in names.items():
                told[name] = before[other][:1] + (name,) + before[other][2:]
            return told
        return self.do(refusals, deed)

    def undo(self):
        if not self.deeds:
            return NothingBack
        self.again.append(self.deeds.pop())
        return None

    def redo(self):
        if not self.again:
            return NothingBack
        self.deeds.append(self.again.pop())
        return None


class DeskTest(unittest.TestCase):
    def desk(self, tree=TREE):
        return Desk(crate_of(tree))

    def check_refused(self, desk, refusal, name, *handed_in):
        """It is refused with just this, and nothing is changed by that."""
        tree, crate = desk.tree(), desk.crate()
        with self.subTest(name=name, handed_in=handed_in):
            with self.assertRaises(CrateError) as caught:
                getattr(desk, name)(*handed_in)
            self.assertIs(type(caught.exception), refusal)
            self.assertEqual(desk.tree(), tree)
            self.assertEqual(desk.crate(), crate)

    def check_done(self, tree, deed, told):
        """The deed tells None and makes this tree, and can be taken back and done again."""
        desk = self.desk(tree)
        self.assertIsNone(getattr(desk, deed[0])(*deed[1:]))
        self.assertEqual(desk.tree(), told)
        self.assertTrue(is_tree(desk.tree()))
        self.assertIsNone(desk.undo())
        self.assertEqual(desk.tree(), tree)
        self.assertIsNone(desk.redo())
        self.assertEqual(desk.tree(), told)
        self.check_refused(desk, NothingBack, "redo")
        self.assertEqual(read(desk.save()), told)


class StartTest(DeskTest):
    def test_it_has_the_tree_of_the_crate(self):
        for tree in TREES:
            crate = crate_of(tree)
            desk = Desk(crate)
            with self.subTest(tree=str(tree)[:40]):
                self.assertEqual(desk.tree(), tree)
                self.assertEqual(desk.crate(), crate)
                self.assertEqual(desk.save(), crate)

    def test_it_has_the_tree_of_the_last_round(self):
        crate = changed(changed(crate_of(TREE), ()), DEEP)
        self.assertEqual(Desk(crate).tree(), DEEP)
        self.assertEqual(Desk(crate=crate).tree(), DEEP)

    def test_no_crate_is_refused(self):
        crate = crate_of(TREE)
        for wrong in ((), crate[:-1], crate + (0,), crate[:3], (71,) + crate[1:], by_hand.crate(TREE[::-1])):
            with self.subTest(wrong=wrong[-5:]):
                with self.assertRaises(BadCrate):
                    Desk(wrong)

    def test_the_methods_stand_in_the_class_with_their_arguments(self):
        told = {"put": ["entry"], "drop": ["path"], "move": ["path", "goal"], "undo": [], "redo": [], "tree": [], "save": [],
                "crate": []}
        for name, arguments in told.items():
            with self.subTest(name=name):
                self.assertIn(name, vars(Desk))
                self.assertEqual(list(inspect.signature(vars(Desk)[name]).parameters)[1:], arguments)
        self.assertEqual(list(inspect.signature(Desk).parameters), ["crate"])


class PutTest(DeskTest):
    def test_something_new(self):
        for entry in (("folder", "z"), ("file", "0", (9,)), ("link", "a/c", ".."), ("file", "a/b/g", ()), ("folder", "a/b/g"),
                      ("link", "empty/l", "x"), ("file", "a.b/y", (1,))):
            with self.subTest(entry=entry):
                told = tuple(sorted(TREE + (entry,), key=lambda one: one[1]))
                self.check_done(TREE, ("put", entry), told)

    def test_in_the_place_of_what_has_its_path(self):
        for path in ("a/b/f", "a/l", "a-b", "way", "empty"):
            for entry in (("folder", path), ("file", path, (8, 8)), ("link", path, "../x")):
                with self.subTest(entry=entry):
                    self.check_done(TREE, ("put", entry), tuple(entry if one[1] == path else one for one in TREE))

    def test_a_folder_in_the_place_of_a_folder_keeps_all_below(self):
        for path in ("a", "a/b", "a.b", "empty"):
            self.check_done(TREE, ("put", ("folder", path)), TREE)

    def test_the_same_again_changes_nothing(self):
        for entry in TREE:
            if entry[0] != "folder":
                self.check_done(TREE, ("put", entry), TREE)

    def test_into_nothing(self):
        self.check_done((), ("put", ("file", "a", ())), (("file", "a", ()),))

    def test_nothing_above(self):
        for path in ("x/y", "a/x/y", "a/b/c/d", "x/y/z"):
            for entry in (("folder", path), ("file", path, ()), ("link", path, "a")):
                self.check_refused(self.desk(), NoEntry, "put", entry)

    def test_no_folder_above(self):
        for path in ("a-b/x", "a/b/f/x", "a/l/x", "way/x", "ab/x"):
            for entry in (("folder", path), ("file", path, ()), ("link", path, "a")):
                self.check_refused(self.desk(), NotFolder, "put", entry)

    def test_nothing_above_though_higher_up_stands_a_file(self):
        # Nothing stands at ab/x, and NoEntry is told ahead of NotFolder.
        self.check_refused(self.desk(), NoEntry, "put", ("file", "ab/x/y", ()))
        self.check_refused(self.desk(), NoEntry, "put", ("folder", "way/b/g"))

    def test_something_below_what_is_no_folder(self):
        for path in ("a", "a/b", "a.b"):
            self.check_refused(self.desk(), Clash, "put", ("file", path, (1,)))
            self.check_refused(self.desk(), Clash, "put", ("link", path, "x"))

    def test_what_begins_alike_is_not_below(self):
        tree = (("folder", "a"), ("file", "a-b", ()), ("file", "a.b", ()), ("file", "ab", ()))
        self.check_done(tree, ("put", ("file", "a", (1,))), (("file", "a", (1,)),) + tree[1:])

    def test_paths_of_eight_parts(self):
        entry = ("file", "1/2/3/4/5/6/7/8", (1,))
        desk = self.desk(DEEP)
        desk.put(entry)
        self.assertIn(entry, desk.tree())


class DropTest(DeskTest):
    def test_what_has_the_path_goes_with_all_below(self):
        for path, gone in (
            ("a", ("a", "a/b", "a/b/f", "a/l")), ("a/b", ("a/b", "a/b/f")), ("a/b/f", ("a/b/f",)), ("a/l", ("a/l",)), ("a-b", ("a-b",)),
            ("a.b", ("a.b", "a.b/x")), ("ab", ("ab",)), ("way", ("way",)), ("empty", ("empty",)),
        ):
            with self.subTest(path=path):
                self.check_done(TREE, ("drop", path), tuple(entry for entry in TREE if entry[1] not in gone))

    def test_the_last_entry(self):
        self.check_done((("folder", "a"),), ("drop", "a"), ())

    def test_nothing_there(self):
        for path in ("x", "a/x", "a/b/f/x", "b", "f", "l", "way/b", "a/b/f/f", "aa"):
            self.check_refused(self.desk(), NoEntry, "drop", path)
        self.check_refused(self.desk(()), NoEntry, "drop", "a")


class MoveTest(DeskTest):
    def test_with_all_below(self):
        for path, goal, names in (
            ("a", "z", {"a": "z", "a/b": "z/b", "a/b/f": "z/b/f", "a/l": "z/l"}),
            ("a", "empty/e", {"a": "empty/e", "a/b": "empty/e/b", "a/b/f": "empty/e/b/f", "a/l": "empty/e/l"}),
            ("a/b", "b", {"a/b": "b", "a/b/f": "b/f"}),
            ("a/b", "a/c", {"a/b": "a/c", "a/b/f": "a/c/f"}),
            ("a/b", "a.b/b", {"a/b": "a.b/b", "a/b/f": "a.b/b/f"}),
            ("a", "aa", {"a": "aa", "a/b": "aa/b", "a/b/f": "aa/b/f", "a/l": "aa/l"}),
            ("a.b", "a/x", {"a.b": "a/x", "a.b/x": "a/x/x"}),
            ("a/b/f", "f", {"a/b/f": "f"}),
            ("a/b/f", "a/f", {"a/b/f": "a/f"}),
            ("a/l", "a/b/l", {"a/l": "a/b/l"}),
            ("ab", "a/ab", {"ab": "a/ab"}),
            ("way", "ab0", {"way": "ab0"}),
            ("empty", "a/b/e", {"empty": "a/b/e"}),
        ):
            with self.subTest(path=path, goal=goal):
                told = [(entry[0], names.get(entry[1], entry[1])) + entry[2:] for entry in TREE]
                self.check_done(TREE, ("move", path, goal), tuple(sorted(told, key=lambda entry: entry[1])))

    def test_a_part_that_stands_again_in_a_path(self):
        tree = tree_of((("file", "a/a/a", (1,)), ("folder", "b/a")))
        self.check_done(tree, ("move", "a", "b/c"), tree_of((("file", "b/c/a/a", (1,)), ("folder", "b/a"))))
        self.check_done(tree, ("move", "a/a", "c"), tree_of((("folder", "a"), ("file", "c/a", (1,)), ("folder", "b/a"))))

    def test_up_to_eight_parts(self):
        desk = self.desk(DEEP)
        desk.move("t", "1/2/3/4/5/t")
        self.assertEqual(by_path(desk.tree())["1/2/3/4/5/t/u/v"], ("file", "1/2/3/4/5/t/u/v", (5,)))
        desk.move("f", "1/2/3/4/5/6/7/f")
        self.assertIn(("file", "1/2/3/4/5/6/7/f", ()), desk.tree())

    def test_nothing_at_the_path(self):
        for path in ("x", "a/x", "a/b/f/x", "way/b"):
            for goal in ("z", "a", "x/y/z", "ab/x", path, path + "/q"):
                self.check_refused(self.desk(), NoEntry, "move", path, goal)

    def test_the_goal_below_the_path(self):
        for path in ("a", "a/b", "empty", "ab", "way", "a/b/f", "a/l"):
            for rest in ("/x", "/b", "/x/y", "/b/f/x"):
                self.check_refused(self.desk(), Clash, "move", path, path + rest)

    def test_something_at_the_goal(self):
        for path, goal in (("a", "ab"), ("a", "empty"), ("ab", "a"), ("a/b", "a"), ("a/b/f", "a/b"), ("way", "a/l"), ("a-b", "a.b/x"),
                           ("a", "a"), ("ab", "ab"), ("a/b/f", "a/b/f")):
            self.check_refused(self.desk(), Clash, "move", path, goal)

    def test_above_the_goal(self):
        for path in ("a", "ab", "way", "empty"):
            self.check_refused(self.desk(), NoEntry, "move", path, "x/y")
            self.check_refused(self.desk(), NoEntry, "move", path, "a.b/y/z")
            self.check_refused(self.desk(), NoEntry, "move", path, "a-b/y/z")
            self.check_refused(self.desk(), NotFolder, "move", path, "a-b/x")
            self.check_refused(self.desk(), NotFolder, "move", path, "a.b/x/y")
        self.check_refused(self.desk(), NotFolder, "move", "ab", "way/x")
        self.check_refused(self.desk(), NotFolder, "move", "ab", "a/l/x")

    def test_too_many_parts(self):
        for goal in ("1/2/3/4/5/6/t", "1/2/3/4/5/6/7/t"):
            self.check_refused(self.desk(DEEP), BadPath, "move", "t", goal)
        self.check_refused(self.desk(DEEP), BadPath, "move", "1", "t/u/1")
        desk = self.desk(DEEP)
        self.assertIsNone(desk.move("1/2", "t/u/2"))
        self.assertIn(("folder", "t/u/2/3/4/5/6/7"), desk.tree())
        self.check_done(DEEP, ("move", "t/u", "1/2/3/4/5/6/u"), tree_of(
            (("folder", "1/2/3/4/5/6/7"), ("file", "f", ()), ("folder", "t"), ("file", "1/2/3/4/5/6/u/v", (5,)), ("link", "k", "f")),
        ))

    def test_clash_ahead_of_all_but_the_first(self):
        self.check_refused(self.desk(), Clash, "move", "ab", "ab/x")
        self.check_refused(self.desk(), Clash, "move", "ab", "ab/x/y")
        self.check_refused(self.desk(), Clash, "move", "way", "way/x")
        self.check_refused(self.desk(), Clash, "move", "a", "a/x/y")
        self.check_refused(self.desk(), Clash, "move", "a", "a/b/f/x")
        self.check_refused(self.desk(DEEP), Clash, "move", "1", "1/2/3/4/5/6/7/8")
        self.check_refused(self.desk(DEEP), Clash, "move", "t", "1/2/3/4/5/6/7")

    def test_above_the_goal_ahead_of_too_many_parts(self):
        self.check_refused(self.desk(DEEP), NoEntry, "move", "t", "1/2/3/4/5/6/x/y")
        self.check_refused(self.desk(DEEP), NoEntry, "move", "1", "x/y")
        self.check_refused(self.desk(DEEP), NotFolder, "move", "1", "f/y")
        self.check_refused(self.desk(DEEP), NotFolder, "move", "1", "k/y")
        self.check_refused(self.desk(DEEP), NotFolder, "move", "1/2", "t/u/v/w")

    def test_a_link_keeps_its_goal(self):
        desk = self.desk()
        desk.move("a", "z")
        self.assertEqual(by_path(desk.tree())["z/l"], ("link", "z/l", "b/f"))
        self.assertEqual(by_path(desk.tree())["way"], ("link", "way", "a"))


class BackTest(DeskTest):
    def test_nothing_to_take_back(self):
        desk = self.desk()
        self.check_refused(desk, NothingBack, "undo")
        self.check_refused(desk, NothingBack, "redo")
        desk.drop("a")
        self.check_refused(desk, NothingBack, "redo")
        desk.undo()
        self.check_refused(desk, NothingBack, "undo")
        desk.redo()
        self.check_refused(desk, NothingBack, "redo")

    def test_a_row_of_deeds_back_and_again(self):
        desk = self.desk()
        trees = [desk.tree()]
        for deed in (("put", ("file", "a/n", (1,))), ("move", "a", "z"), ("drop", "z/b"), ("put", ("folder", "a")),
                     ("move", "z/n", "a/n"), ("put", ("link", "a/n", "..")), ("drop", "z")):
            getattr(desk, deed[0])(*deed[1:])
            trees.append(desk.tree())
        for _ in range(2):
            for tree in trees[-2::-1]:
                self.assertIsNone(desk.undo())
                self.assertEqual(desk.tree(), tree)
            self.check_refused(desk, NothingBack, "undo")
            for tree in trees[1:]:
                self.assertIsNone(desk.redo())
                self.assertEqual(desk.tree(), tree)
            self.check_refused(desk, NothingBack, "redo")

    def test_no_redo_behind_a_new_deed(self):
        for deed in (("put", ("file", "n", ())), ("drop", "a"), ("move", "a", "z")):
            desk = self.desk()
            desk.drop("ab")
            desk.drop("way")
            desk.undo()
            desk.undo()
            getattr(desk, deed[0])(*deed[1:])
            self.check_refused(desk, NothingBack, "redo")
            desk.undo()
            self.assertEqual(desk.tree(), TREE)
            self.check_refused(desk, NothingBack, "undo")
            desk.redo()
            self.check_refused(desk, NothingBack, "redo")

    def test_a_new_deed_between(self):
        desk = self.desk()
        desk.drop("ab")
        desk.drop("way")
        desk.undo()
        desk.drop("empty")
        self.assertEqual([path for path in by_path(TREE) if path not in by_path(desk.tree())], ["ab", "empty"])
        desk.undo()
        desk.undo()
        self.assertEqual(desk.tree(), TREE)
        desk.redo()
        desk.redo()
        self.assertEqual([path for path in by_path(TREE) if path not in by_path(desk.tree())], ["ab", "empty"])

    def test_what_is_refused_does_not_count(self):
        desk = self.desk()
        desk.drop("ab")
        desk.drop("way")
        desk.undo()
        for refusal, deed in (
            (NoEntry, ("put", ("file", "x/y", ()))), (NotFolder, ("put", ("file", "a-b/y", ()))), (Clash, ("put", ("file", "a", ()))),
            (NoEntry, ("drop", "x")), (NoEntry, ("move", "x", "y")), (Clash, ("move", "a", "a/x")),
        ):
            self.check_refused(desk, refusal, *deed)
        desk.redo()
        self.assertNotIn("way", by_path(desk.tree()))
        self.check_refused(desk, NothingBack, "redo")
        self.check_refused(desk, NoEntry, "drop", "x")
        desk.undo()
        desk.undo()
        self.assertEqual(desk.tree(), TREE)
        self.check_refused(desk, NothingBack, "undo")

    def test_a_deed_that_changes_nothing_counts(self):
        desk = self.desk()
        desk.drop("ab")
        desk.put(("folder", "a"))
        desk.undo()
        self.assertNotIn("ab", by_path(desk.tree()))
        desk.put(("folder", "a"))
        self.check_refused(desk, NothingBack, "redo")
        desk.undo()
        desk.undo()
        self.assertEqual(desk.tree(), TREE)

    def test_two_desks_of_one_crate(self):
        crate = crate_of(TREE)
        one, other = Desk(crate), Desk(crate)
        one.drop("a")
        self.assertEqual(other.tree(), TREE)
        self.check_refused(other, NothingBack, "undo")
        one.save()
        self.assertEqual(other.crate(), crate)


class SaveTest(DeskTest):
    def test_a_changed_tree_is_kept_in_a_round_more(self):
        desk = self.desk()
        crate = desk.crate()
        desk.drop("a")
        self.assertEqual(desk.crate(), crate)
        kept = desk.save()
        self.assertEqual(kept, changed(crate, desk.tree()))
        self.assertEqual(desk.crate(), kept)
        self.assertEqual(read(kept), desk.tree())
        self.assertEqual(earlier(kept), crate)

    def test_nothing_changed_tells_the_same_crate(self):
        desk = self.desk()
        crate = desk.crate()
        self.assertEqual(desk.save(), crate)
        desk.put(("folder", "a"))
        self.assertEqual(desk.save(), crate)
        desk.drop("a")
        desk.undo()
        self.assertEqual(desk.save(), crate)
        desk.drop("ab")
        desk.put(("file", "ab", ()))
        self.assertEqual(desk.save(), crate)
        desk.drop("ab")
        kept = desk.save()
        self.assertEqual(desk.save(), kept)
        self.assertEqual(rounds(kept), 2)

    def test_deeds_ahead_of_keeping_can_be_taken_back(self):
        desk = self.desk()
        crate = desk.crate()
        desk.drop("a")
        desk.drop("ab")
        desk.undo()
        first = desk.save()
        desk.redo()
        self.assertNotIn("ab", by_path(desk.tree()))
        second = desk.save()
        desk.undo()
        desk.undo()
        self.assertEqual(desk.tree(), TREE)
        self.check_refused(desk, NothingBack, "undo")
        self.assertEqual(desk.crate(), second)
        third = desk.save()
        self.assertEqual([earlier(some) for some in (third, second, first)], [second, first, crate])
        self.assertEqual(third, changed(second, TREE))
        self.assertEqual(by_hand.read_rounds(third)[3]["pieces"], [])
        self.assertEqual([entry is None for entry in history(third, "ab")], [False, False, True, False])

    def test_a_desk_goes_on_from_what_another_kept(self):
        desk = self.desk()
        desk.move("a", "z")
        kept = desk.save()
        other = Desk(kept)
        self.assertEqual(other.tree(), desk.tree())
        self.check_refused(other, NothingBack, "undo")
        other.move("z", "a")
        self.assertEqual(read(other.save()), TREE)

    def test_of_a_crate_by_hand(self):
        entry = ("file", "x", (1, 2))
        crate = by_hand.with_round(by_hand.HEAD, [by_hand.piece(entry)], [])
        desk = Desk(crate)
        self.assertEqual(desk.tree(), ())
        desk.put(entry)
        self.assertEqual(desk.save(), by_hand.with_round(crate, [], [("x", 3)]))

    def test_a_hundred_entries(self):
        tree = tuple(("file", f"f{k:02}", (k,)) for k in range(99))
        desk = self.desk(tree)
        desk.put(("folder", "z"))
        self.assertEqual(read(desk.save()), tree + (("folder", "z"),))

    def test_a_little_beyond_the_limits_nothing_is_refused(self):
        tree = tuple(("file", f"f{k:02}", (k,)) for k in range(100))
        desk = self.desk(tree)
        self.assertIsNone(desk.put(("folder", "z")))
        self.assertEqual(desk.tree(), tree + (("folder", "z"),))

    def test_asked_again_the_same_is_told(self):
        desk = self.desk()
        desk.drop("a")
        for name in ("tree", "crate", "tree", "save", "crate"):
            self.assertEqual(getattr(desk, name)(), getattr(desk, name)())


class ManyDeedsTest(DeskTest):
    def random_deed(self, dice, desk):
        paths = [entry[1] for entry in desk.tree()] + ["a", "b"]
        chosen = dice.choice(paths + [random_path(dice)])
        other = dice.choice(paths + [random_path(dice, 8), dice.choice(paths) + "/" + dice.choice("abc")] * 2)
        name = dice.choice(("put", "put", "put", "drop", "move", "move", "undo", "undo", "redo"))
        if name == "put":
            return name, random_entry(dice, other if other.count("/") < 8 else "a")
        if name == "drop":
            return name, chosen
        if name == "move":
            return name, chosen, other if other.count("/") < 8 else "b"
        return (name,)

    def test_beside_a_desk_by_hand(self):
        dice = random.Random(60)
        met = {}
        for _ in range(60):
            tree = random_tree(dice, 8)
            desk, hand = self.desk(tree), ByHandDesk(tree)
            kept = [(desk.crate(), tree)]
            for _ in range(60):
                deed = self.random_deed(dice, desk)
                refusal = getattr(hand, deed[0])(*deed[1:])
                met[deed[0], refusal] = True
                if refusal is None:
                    self.assertIsNone(getattr(desk, deed[0])(*deed[1:]))
                else:
                    self.check_refused(desk, refusal, *deed)
                self.assertEqual(desk.tree(), hand.now())
                if dice.random() < 0.05:
                    self.check_save(desk, kept)
        for name, refusal in (
            ("put", None), ("put", NoEntry), ("put", NotFolder), ("put", Clash), ("drop", None), ("drop", NoEntry), ("move", None),
            ("move", NoEntry), ("move", Clash), ("move", NotFolder), ("undo", None), ("undo", NothingBack), ("redo", None),
            ("redo", NothingBack),
        ):
            self.assertIn((name, refusal), met)

    def check_save(self, desk, kept):
        crate, tree = kept[-1]
        self.assertEqual(desk.crate(), crate)
        told = desk.save()
        if desk.tree() == tree:
            self.assertEqual(told, crate)
        else:
            self.assertEqual(told, changed(crate, desk.tree()))
        self.assertEqual(read(told), desk.tree())
        self.assertEqual(desk.crate(), told)
        kept.append((told, desk.tree()))

    def test_all_bodies_come_through(self):
        desk = self.desk(())
        for k, body in enumerate(BODIES):
            desk.put(("file", f"f{k}", body))
            desk.save()
        self.assertEqual(rounds(desk.crate()), len(BODIES) + 1)
        self.assertEqual([entry[2] for entry in read(desk.crate())], list(BODIES))


if __name__ == "__main__":
    unittest.main()
