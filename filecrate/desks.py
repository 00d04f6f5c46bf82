"""Desks: the tree of a crate, changed by deeds that can be taken back, done again and kept."""

from filecrate.crates import changed, read
from filecrate.errors import Clash, NoEntry, NothingBack
from filecrate.paths import above
from filecrate.trees import by_path, check_folder, check_parts, in_order, with_path


class Desk:
    """The tree of a crate, at which deeds are done."""

    def __init__(self, crate):
        self.kept = crate
        self.kept_tree = read(crate)
        self.now = self.kept_tree
        self.trees_back = []
        self.trees_again = []

    def put(self, entry):
        """Puts an entry in the place of what has its path."""
        path = entry[1]
        check_above(self.now, path)
        if entry[0] != "folder" and any(is_below(other[1], path) for other in self.now):
            raise Clash("something is below what is no folder")
        others = [other for other in self.now if other[1] != path]
        self.become(in_order(others + [entry]))

    def drop(self, path):
        """Takes away what has this path, with all below."""
        check_there(self.now, path)
        self.become(without(self.now, path))

    def move(self, path, goal):
        """Brings what is at the path to the goal, with all below."""
        check_there(self.now, path)
        if is_below(goal, path) or goal in by_path(self.now):
            raise Clash("the goal is below the path, or something is there")
        check_above(self.now, goal)
        come = [with_path(entry, goal + entry[1][len(path):]) for entry in self.now if is_at_or_below(entry[1], path)]
        check_parts(come)
        self.become(in_order(list(without(self.now, path)) + come))

    def become(self, tree):
        """Makes this the tree, by a new deed."""
        self.trees_back.append(self.now)
        self.trees_again.clear()
        self.now = tree

    def undo(self):
        """Takes back the last deed."""
        if not self.trees_back:
            raise NothingBack("no deed is there to be taken back")
        self.trees_again.append(self.now)
        self.now = self.trees_back.pop()

    def redo(self):
        """Does again the deed that was taken back last."""
        if not self.trees_again:
            raise NothingBack("no deed is there to be done again")
        self.trees_back.append(self.now)
        self.now = self.trees_again.pop()

    def tree(self):
        """The tree as it is."""
        return self.now

    def save(self):
        """Keeps the tree in the crate, and tells the crate."""
        if self.now != self.kept_tree:
            self.kept = changed(self.kept, self.now)
            self.kept_tree = self.now
        return self.kept

    def crate(self):
        """The crate as it was last kept."""
        return self.kept


def is_below(path, folder):
    """Whether a path is below another one."""
    return path.startswith(folder + "/")


def is_at_or_below(path, folder):
    """Whether a path is another one, or below it."""
    return path == folder or is_below(path, folder)


def without(tree, path):
    """The tree without what has this path, and all below."""
    return tuple(entry for entry in tree if not is_at_or_below(entry[1], path))


def check_there(tree, path):
    """Refuses a path at which nothing stands."""
    if path not in by_path(tree):
        raise NoEntry("nothing is at the path")


def check_above(tree, path):
    """Refuses a path above which no folder stands."""
    folders = above(path)
    # Above a folder of a tree stand folders alone, so just the nearest one is to be looked at.
    if folders:
        check_folder(tree, folders[-1])
