"""Trees for many tests."""

import random

from filecrate.trees import tree_of

# Bodies that are fewest as they are, as deeds, and as words.
PLAIN = (1, 2, 3)
DEEDS = (7, 8, 9) * 30
WORDS = tuple(random.Random(1).choices((0, 0, 0, 5, 6), k=400))
LONGEST = tuple(random.Random(2).choices(range(256), k=1000))

LONG_PATH = "/".join(["abcdefghijkl"] * 8)

TREES = (
    (),
    (("folder", "a"),),
    (("file", "a", ()),),
    (("link", "a", ".."),),
    (("folder", "a"), ("folder", "a/b"), ("folder", "a/b/c"), ("folder", "z")),
    (("file", "deeds", DEEDS), ("file", "plain", PLAIN), ("file", "words", WORDS)),
    (("link", "a", "b"), ("link", "b", "../.."), ("link", "c", "a/../b"), ("link", "d", LONG_PATH)),
    (
        ("folder", "a"), ("file", "a-b", (0,)), ("file", "a.b", (255,)), ("link", "a/b", "../c"), ("file", "a/c", WORDS),
        ("folder", "a/d"), ("folder", "a0"), ("file", "a_", DEEDS),
    ),
    tree_of((("file", LONG_PATH, LONGEST), ("link", "0-_.", LONG_PATH))),
    tuple(("file", f"f{k:02}", (k,)) for k in range(100)),
    tuple(
        (("folder", f"x{k:02}"), ("file", f"x{k:02}", (k,) * k), ("link", f"x{k:02}", "../x01"))[k % 3] for k in range(100)
    ),
)

BODIES = ((), (0,), (1, 2, 3), (5,) * 40, tuple(range(60)), tuple(b"to be or not to be"), DEEDS, WORDS)


def random_path(dice, most=4):
    return "/".join(dice.choice(("a", "b", "c", "a-b", "a.b", "x_0")) for _ in range(dice.randint(1, most)))


def random_entry(dice, path):
    word = dice.choice(("folder", "file", "link"))
    if word == "folder":
        return (word, path)
    if word == "file":
        return (word, path, dice.choice(BODIES))
    return (word, path, dice.choice(("..", "a", "../b/c", "a/..")))


def random_tree(dice, most=12):
    """A tree of at most so many entries that were asked for, and the folders above them."""
    told = {}
    for _ in range(dice.randint(0, most)):
        path = random_path(dice)
        parts = path.split("/")
        folders = ["/".join(parts[:many]) for many in range(1, len(parts))]
        if any(told.get(folder, ("folder",))[0] != "folder" for folder in folders):
            continue
        if any(other.startswith(path + "/") for other in told):
            continue
        for folder in folders:
            told[folder] = ("folder", folder)
        told[path] = random_entry(dice, path)
    return tuple(told[path] for path in sorted(told))
