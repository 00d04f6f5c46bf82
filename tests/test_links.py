"""Promise 3.5."""

import random
import unittest

from filecrate.errors import CrateError, LeadsOut, NoEntry, NotFolder, TooFar
from filecrate.links import landing, ways_out
from filecrate.trees import is_tree, tree_of

TREE = tree_of((
    ("folder", "a/b/c"),
    ("file", "a/f", (1,)),
    ("file", "g", ()),
    ("link", "to-a", "a"),
    ("link", "to-f", "a/f"),
    ("link", "to-b", "to-a/b"),
    ("link", "to-to-f", "to-f"),
    ("link", "a/top", ".."),
    ("link", "a/self", "../a"),
    ("link", "a/b/up", ".."),
    ("link", "a/b/upup", "../.."),
    ("link", "a/b/out", "../../.."),
    ("link", "a/b/near", "c"),
    ("link", "a/b/f", "../f"),
    ("link", "out", ".."),
    ("link", "outin", "../a"),
    ("link", "to-out", "a/b/out"),
    ("link", "lost", "nothing"),
    ("link", "lost-below", "a/nothing/more"),
    ("link", "ring", "ring"),
    ("link", "ring-1", "ring-2"),
    ("link", "ring-2", "ring-1"),
    ("link", "over-f", "a/f/.."),
    ("link", "below-f", "g/x"),
    ("link", "over-lost", "nothing/../../.."),
    ("link", "round", "a/../a/b/../f"),
    ("link", "over-link", "to-b/../f"),
    ("link", "top-out", "a/top/.."),
    ("link", "ring-out", "ring/../.."),
))


def chain(many, goal):
    """A tree with many links, each to the next one, the last one to the goal."""
    links = [("link", f"l{number:02}", f"l{number + 1:02}") for number in range(many - 1)]
    return tree_of((*links, ("link", f"l{many - 1:02}", goal), ("folder", "d/e"), ("file", "f", ())))


def walked(tree, path):
    """The landing, or the name of its refusal, told by going the way of each link before what is left behind it."""
    found = {entry[1]: entry for entry in tree}
    met = []

    def go(here, parts, last):
        for place, part in enumerate(parts):
            ends = last and place == len(parts) - 1
            if part == "..":
                if here == ():
                    raise LeadsOut("out")
                here = here[:-1]
                continue
            entry = found.get("/".join(here + (part,)))
            if entry is None:
                raise NoEntry("none")
            if entry[0] == "link":
                met.append(part)
                if len(met) == 21:
                    raise TooFar("far")
                here = go(here, entry[2].split("/"), ends)
            elif entry[0] == "file" and not ends:
                raise NotFolder("file")
            else:
                here += (part,)
        return here

    try:
        return "/".join(go((), path.split("/"), True))
    except CrateError as refusal:
        return type(refusal).__name__


def asked(tree, path):
    try:
        return landing(tree, path)
    except CrateError as refusal:
        return type(refusal).__name__


class LandingTest(unittest.TestCase):
    def check_all(self, rows):
        for path, told in rows:
            with self.subTest(path=path):
                self.assertEqual(asked(TREE, path), told)

    def test_the_tree_is_one(self):
        self.assertTrue(is_tree(TREE))

    def test_folders_and_files(self):
        self.check_all((("a", "a"), ("a/b", "a/b"), ("a/b/c", "a/b/c"), ("a/f", "a/f"), ("g", "g")))

    def test_links(self):
        self.check_all((
            ("to-a", "a"), ("to-f", "a/f"), ("to-a/f", "a/f"), ("to-a/b/c", "a/b/c"), ("a/b/near", "a/b/c"), ("a/b/f", "a/f"),
            ("round", "a/f"),
        ))

    def test_links_to_links(self):
        self.check_all((
            ("to-b", "a/b"), ("to-b/c", "a/b/c"), ("to-to-f", "a/f"), ("to-b/near", "a/b/c"), ("to-b/f", "a/f"),
            # From the folder on in which a link really stands, and `..` to the folder really above.
            ("over-link", "a/f"), ("to-b/up/f", "a/f"), ("a/self/self/self/f", "a/f"),
        ))

    def test_links_up(self):
        self.check_all((
            ("a/top", ""), ("a/top/g", "g"), ("a/top/a/top", ""), ("a/b/up", "a"), ("a/b/upup", ""), ("a/b/upup/a/b", "a/b"),
            ("a/b/up/top/to-a", "a"), ("to-a/top", ""),
        ))

    def test_leads_out(self):
        self.check_all((
            ("out", "LeadsOut"), ("outin", "LeadsOut"), ("outin/b", "LeadsOut"), ("a/b/out", "LeadsOut"), ("to-out", "LeadsOut"),
            ("a/b/out/a", "LeadsOut"), ("a/top/out", "LeadsOut"), ("top-out", "LeadsOut"),
        ))

    def test_no_entry(self):
        self.check_all((
            ("nothing", "NoEntry"), ("a/nothing", "NoEntry"), ("nothing/a", "NoEntry"), ("lost", "NoEntry"), ("lost/a", "NoEntry"),
            ("lost-below", "NoEntry"), ("to-a/nothing", "NoEntry"), ("b", "NoEntry"), ("a/b/c/d", "NoEntry"),
        ))
        self.assertRaises(NoEntry, landing, (), "a")

    def test_not_folder(self):
        self.check_all((
            ("g/a", "NotFolder"), ("a/f/b", "NotFolder"), ("to-f/a", "NotFolder"), ("to-to-f/a", "NotFolder"),
            ("over-f", "NotFolder"), ("below-f", "NotFolder"), ("a/b/f/c", "NotFolder"), ("g/a/b/c", "NotFolder"),
        ))

    def test_rings(self):
        self.check_all((
            ("ring", "TooFar"), ("ring/a", "TooFar"), ("ring-1", "TooFar"), ("ring-2", "TooFar"), ("ring-1/nothing", "TooFar"),
        ))

    def test_the_one_that_is_met_first(self):
        self.check_all((
            ("over-lost", "NoEntry"), ("ring-out", "TooFar"), ("lost/out", "NoEntry"), ("out/nothing", "LeadsOut"),
            ("g/out", "NotFolder"), ("over-f/out", "NotFolder"), ("nothing/ring", "NoEntry"), ("a/top/ring/out", "TooFar"),
        ))

    def test_a_way_may_end_where_it_began(self):
        self.check_all((("a/self", "a"), ("a/b/up/self/b/up", "a")))


class ManyLinksTest(unittest.TestCase):
    def test_twenty_and_twenty_one(self):
        for many in (1, 2, 19, 20):
            self.assertEqual(landing(chain(many, "f"), "l00"), "f")
            self.assertEqual(landing(chain(many, "d"), "l00/e"), "d/e")
        for many in (21, 22, 30):
            self.assertRaises(TooFar, landing, chain(many, "f"), "l00")
            self.assertEqual(landing(chain(many, "f"), f"l{many - 20:02}"), "f")
            self.assertRaises(TooFar, landing, chain(many, "f"), f"l{many - 21:02}")

    def test_what_is_met_at_the_twenty_first_link_and_behind_the_twentieth(self):
        for goal, told in (("..", "LeadsOut"), ("nothing", "NoEntry"), ("f/x", "NotFolder"), ("l00", "TooFar")):
            with self.subTest(goal=goal):
                self.assertEqual(asked(chain(20, goal), "l00"), told)
                self.assertEqual(asked(chain(21, goal), "l00"), "TooFar")

    def test_links_one_behind_the_other_on_one_way(self):
        tree = tree_of((("link", "a/b", "../a"), ("link", "c", "a/b/b/b/b/b/b/b"), ("link", "d", "c/b/b/b/b/b/b/b")))
        # c is 8 links, d is 1 + 8 + 7.
        self.assertEqual(landing(tree, "d"), "a")
        self.assertEqual(landing(tree, "d/b/b/b/b"), "a")
        self.assertRaises(TooFar, landing, tree, "d/b/b/b/b/b")
        self.assertRaises(TooFar, landing, tree, "d/b/b/b/b/b/x")
        self.assertRaises(NoEntry, landing, tree, "d/b/b/b/b/x/b")

    def test_each_way_counts_its_own_links(self):
        tree = chain(20, "f")
        for k in range(3):
            self.assertEqual(landing(tree, "l00"), "f")


class WaysOutTest(unittest.TestCase):
    def test_written_out(self):
        self.assertEqual(ways_out(TREE), ("a/b/out", "out", "outin", "to-out", "top-out"))

    def test_none(self):
        for tree in ((), (("folder", "a"),), (("file", "a", ()),), (("link", "a", "a"),), (("link", "a", "b"),), chain(20, "f")):
            self.assertEqual(ways_out(tree), ())

    def test_only_within_twenty_links(self):
        self.assertEqual(ways_out(chain(22, "..")), tuple(f"l{number:02}" for number in range(2, 22)))

    def test_up_to_the_top_and_out(self):
        self.assertEqual(ways_out(tree_of((("link", "a/b", ".."), ("link", "a/c", "../..")))), ("a/c",))
        self.assertEqual(ways_out(tree_of((("link", "a", "b/../.."), ("folder", "b")))), ("a",))
        self.assertEqual(ways_out(tree_of((("link", "a", "b/../.."), ("file", "b", ())))), ())


class DrawnTest(unittest.TestCase):
    def test_as_walked(self):
        source = random.Random(11)
        met = set()
        for k in range(1500):
            tree = drawn_tree(source)
            self.assertTrue(is_tree(tree))
            paths = [entry[1] for entry in tree]
            for path in paths + [path + "/" + source.choice("abc") for path in paths]:
                self.assertEqual(asked(tree, path), walked(tree, path), (tree, path))
                met.add(walked(tree, path))
            links = [entry[1] for entry in tree if entry[0] == "link"]
            self.assertEqual(ways_out(tree), tuple(path for path in links if walked(tree, path) == "LeadsOut"))
        self.assertLessEqual({"", "LeadsOut", "NoEntry", "NotFolder", "TooFar", "a", "a/b", "a/b/c"}, met)


def drawn_tree(source):
    """A tree of few names, in which many links lead somewhere."""
    entries = {}
    for k in range(source.randrange(1, 12)):
        path = "/".join(source.choice("abc") for j in range(source.randrange(1, 4)))
        goal = "/".join(source.choice(("..", "..", "a", "b", "c")) for j in range(source.randrange(1, 5)))
        entry = source.choice((("folder", path), ("file", path, ()), ("link", path, goal), ("link", path, goal)))
        over = [path[:place] for place, sign in enumerate(path) if sign == "/"]
        below = any(other.startswith(path + "/") for other in entries)
        if not below and all(entries.get(other, ("folder",))[0] == "folder" for other in over):
            entries.update({other: ("folder", other) for other in over})
            entries[path] = entry
    return tuple(entries[path] for path in sorted(entries))


if __name__ == "__main__":
    unittest.main()
