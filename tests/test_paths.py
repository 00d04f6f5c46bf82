"""Promises 3.1 and 3.2."""

import itertools
import unittest

from filecrate.errors import BadPath, CrateError, LeadsOut
from filecrate.paths import above, clean, is_path, way_between

SIGNS = "abcdefghijklmnopqrstuvwxyz0123456789.-_"

PATHS = (
    "a", "z", "0", "9", "-", "_", "...", "....", ".a", "a.", "..a", "a..", ".-", "-.", "._", "_.", "a.b", "a-b_c.d",
    "abcdefghijkl", "012345678901", "............", "a/b", "a/...", ".../a", "a/a/a", "a/b/c/d/e/f/g/h",
    "/".join(["abcdefghijkl"] * 8), "x.txt/y-1/_z",
)

NO_PATHS = (
    "", "/", "//", ".", "..", "/a", "a/", "a//b", "./a", "a/.", "../a", "a/..", "a/./b", "a/../b", "A", "a B", " ", "a b",
    "a/B", "abcdefghijklm", "a/abcdefghijklm", ".............", "a/b/c/d/e/f/g/h/i", "a/b/c/d/e/f/g/h/", "~", "a\\b",
    "a:b", "a+b", "a*b", "a?b", "a,b", "a=b", "a`b", "a{b", "a@b", "a[b", "a'b", 'a"b', "a" * 300, "a/" * 150, "/" * 300,
    "." * 300, "/".join(["a"] * 150),
)


def deep(thing, times, kind):
    for k in range(times):
        thing = kind([thing])
    return thing


NO_TEXTS = (
    None, True, False, 0, 1, -1, 97, 10 ** 30, (), [], ("a",), ["a"], ("a", "b"), [["a"]], (("a",), "b"), ("folder", "a"),
    deep("a", 30, list), deep("a", 30, tuple), deep((), 35, tuple), deep([], 35, list), [None, True, (1, [2])],
)


class IsPathTest(unittest.TestCase):
    def test_paths(self):
        for path in PATHS:
            with self.subTest(path=path):
                self.assertIs(is_path(path), True)

    def test_texts_that_are_none(self):
        for text in NO_PATHS:
            with self.subTest(text=text):
                self.assertIs(is_path(text), False)

    def test_things_that_are_no_texts(self):
        for thing in NO_TEXTS:
            with self.subTest(thing=str(thing)[:40]):
                self.assertIs(is_path(thing), False)

    def test_each_sign(self):
        for number in range(32, 127):
            sign = chr(number)
            if sign not in "./":
                for text in (sign, "a" + sign, sign + "a", "a/b" + sign + "c"):
                    self.assertIs(is_path(text), sign in SIGNS, text)

    def test_how_many_signs_and_parts(self):
        for many in range(20):
            self.assertIs(is_path("b" * many), 1 <= many <= 12, many)
            self.assertIs(is_path("a/" + "." * many + "/b"), 3 <= many <= 12, many)
            self.assertIs(is_path("/".join(["ab"] * many)), 1 <= many <= 8, many)


def cleaned(text):
    """What clean tells, or the name of its refusal, by the words of the point."""
    if text[:1] == "/":
        return "LeadsOut"
    kept = ()
    for piece in text.split("/"):
        if piece in ("", "."):
            continue
        if piece == "..":
            if kept == ():
                return "LeadsOut"
            kept = kept[:-1]
        elif len(piece) > 12 or set(piece) - set(SIGNS):
            return "BadPath"
        else:
            kept += (piece,)
    return "/".join(kept) if 1 <= len(kept) <= 8 else "BadPath"


def asked(text):
    try:
        return clean(text)
    except CrateError as refusal:
        return type(refusal).__name__


class CleanTest(unittest.TestCase):
    def test_paths_are_clean(self):
        for path in PATHS:
            self.assertEqual(clean(path), path)

    def test_texts(self):
        for text, path in (
            ("a/", "a"),
            ("a//b", "a/b"),
            ("a///", "a"),
            ("./a", "a"),
            (".//a/./b/.", "a/b"),
            ("a/../b", "b"),
            ("a/b/../../c", "c"),
            ("a/b/..", "a"),
            ("a/...", "a/..."),
            ("a/.../..", "a"),
            ("./a/../b/./c/../d//", "b/d"),
            ("a/b/c/d/e/f/g/h/i/..", "a/b/c/d/e/f/g/h"),
            ("a/b/c/d/e/f/g/h/i/j/../../k/..", "a/b/c/d/e/f/g/h"),
            ("a/" * 8, "a/a/a/a/a/a/a/a"),
            ("a/../" * 50 + "b", "b"),
            ("a" + "/" * 299, "a"),
        ):
            with self.subTest(text=text):
                self.assertEqual(clean(text), path)

    def test_refusals(self):
        for text, refusal in (
            ("", BadPath),
            (".", BadPath),
            ("./", BadPath),
            ("./.", BadPath),
            ("a/..", BadPath),
            ("a/../", BadPath),
            ("a/b/../..", BadPath),
            ("/", LeadsOut),
            ("//", LeadsOut),
            ("/a", LeadsOut),
            ("/A", LeadsOut),
            ("/..", LeadsOut),
            ("..", LeadsOut),
            ("../a", LeadsOut),
            ("./../a", LeadsOut),
            ("a/../..", LeadsOut),
            ("a/../../a", LeadsOut),
            ("A", BadPath),
            (" ", BadPath),
            ("a b", BadPath),
            ("a/B/c", BadPath),
            ("abcdefghijklm", BadPath),
            ("a/abcdefghijklm", BadPath),
            ("a" * 300, BadPath),
            # A piece that is no part is refused even if it would be taken away again.
            ("A/../a", BadPath),
            ("abcdefghijklm/../a", BadPath),
            ("a/b/c/d/e/f/g/h/i", BadPath),
            ("a/" * 9, BadPath),
            ("a/" * 150, BadPath),
        ):
            with self.subTest(text=text):
                self.assertRaises(refusal, clean, text)

    def test_the_one_that_is_met_first(self):
        for text, refusal in (
            ("A/../..", BadPath),
            ("A/..", BadPath),
            ("../A", LeadsOut),
            ("a/../../A", LeadsOut),
            ("a/A/../../..", BadPath),
            ("a/b/c/d/e/f/g/h/i" + "/.." * 10, LeadsOut),
            ("a/b/c/d/e/f/g/h/i/A", BadPath),
            ("/abcdefghijklm", LeadsOut),
        ):
            with self.subTest(text=text):
                self.assertRaises(refusal, clean, text)

    def test_all_texts_of_few_pieces(self):
        pieces = ("", ".", "..", "...", "a", "b-1", "A", "abcdefghijklm")
        for many in range(1, 6):
            for row in itertools.product(pieces, repeat=many):
                text = "/".join(row)
                self.assertEqual(asked(text), cleaned(text), text)

    def test_all_texts_of_few_signs(self):
        for many in range(8):
            for row in itertools.product("./a", repeat=many):
                text = "".join(row)
                self.assertEqual(asked(text), cleaned(text), text)

    def test_what_is_told_is_a_path_and_clean_itself(self):
        for many in range(8):
            for row in itertools.product("./a", repeat=many):
                told = asked("".join(row))
                if told not in ("LeadsOut", "BadPath"):
                    self.assertTrue(is_path(told))
                    self.assertEqual(clean(told), told)

    def test_each_sign(self):
        for number in range(32, 127):
            sign = chr(number)
            if sign != "/":
                self.assertEqual(asked("a" + sign), "a" + sign if sign in SIGNS else "BadPath")


class AboveTest(unittest.TestCase):
    def test_above(self):
        for path, told in (
            ("a", ()),
            ("...", ()),
            ("a/b", ("a",)),
            ("a/b/c", ("a", "a/b")),
            ("a/a/a", ("a", "a/a")),
            ("a/b/c/d/e/f/g/h", ("a", "a/b", "a/b/c", "a/b/c/d", "a/b/c/d/e", "a/b/c/d/e/f", "a/b/c/d/e/f/g")),
        ):
            with self.subTest(path=path):
                self.assertEqual(above(path), told)


class WayBetweenTest(unittest.TestCase):
    def test_ways(self):
        for folder, goal, way in (
            ("", "a", "a"),
            ("", "a/b/c", "a/b/c"),
            ("a", "a", "."),
            ("a/b/c", "a/b/c", "."),
            ("a", "a/b", "b"),
            ("a", "a/b/c", "b/c"),
            ("a/b", "a", ".."),
            ("a/b/c", "a", "../.."),
            ("a", "b", "../b"),
            ("a/b", "c", "../../c"),
            ("a", "b/c", "../b/c"),
            ("a/b", "a/c", "../c"),
            ("a/b/c", "a/d/e", "../../d/e"),
            # Parts are compared, not signs.
            ("ab", "abc", "../abc"),
            ("abc", "ab", "../ab"),
            ("a/bc", "a/b", "../b"),
            # Only parts that both begin with are left out.
            ("a/x", "b/x", "../../b/x"),
            ("a/x/c", "a/y/c", "../../y/c"),
            ("a/a", "a", ".."),
            ("a", "a/a", "a"),
            ("a/b/c/d/e/f/g/h", "i", "../../../../../../../../i"),
            ("a/b/c/d/e/f/g/h", "s/t/u/v/w/x/y/z", "../../../../../../../../s/t/u/v/w/x/y/z"),
            ("a/b/c/d/e/f/g/h", "a/b/c/d/e/f/g/i", "../i"),
        ):
            with self.subTest(folder=folder, goal=goal):
                self.assertEqual(way_between(folder, goal), way)

    def test_the_way_behind_the_folder_leads_to_the_goal_and_none_is_shorter(self):
        paths = ["/".join(row) for many in (1, 2, 3, 4) for row in itertools.product("ab", repeat=many)]
        for folder in paths + [""]:
            for goal in paths:
                way = way_between(folder, goal)
                self.assertEqual(clean(folder + "/" + way if folder else way), goal, (folder, way))
                self.assertNotIn("", way.split("/"))
                if way != ".":
                    pieces = way.split("/")
                    ups = pieces.count("..")
                    self.assertEqual(pieces[:ups], [".."] * ups)
                    kept = folder.split("/")[:len(folder.split("/")) - ups] if folder else []
                    downs = pieces[ups:]
                    behind = folder.split("/")[len(kept):] if folder else []
                    self.assertFalse(downs and behind and downs[0] == behind[0], (folder, goal))


if __name__ == "__main__":
    unittest.main()
