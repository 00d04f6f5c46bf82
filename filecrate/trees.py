"""Trees of folders, files and links."""

from filecrate.bodies import is_body
from filecrate.errors import BadPath, Clash, NoEntry, NotFolder
from filecrate.paths import MOST_PARTS, above, clean, is_goal, is_path, parts_of

MOST_ENTRIES = 100


def is_entry(thing):
    """Whether a thing is an entry."""
    if not isinstance(thing, tuple) or len(thing) < 2 or not is_path(thing[1]):
        return False
    if len(thing) == 2:
        return thing[0] == "folder"
    if len(thing) > 3:
        return False
    if thing[0] == "file":
        return is_body(thing[2])
    return thing[0] == "link" and is_goal(thing[2])


def is_tree(thing):
    """Whether a thing is a tree."""
    if not isinstance(thing, tuple):
        return False
    return all(is_entry(entry) for entry in thing) and are_tree(thing)


def are_tree(entries):
    """Whether entries in this order are a tree."""
    return len(entries) <= MOST_ENTRIES and is_rising(entries) and has_folders_above(entries)


def is_rising(entries):
    """Whether each path is above the one ahead."""
    return all(entries[at - 1][1] < entries[at][1] for at in range(1, len(entries)))


def has_folders_above(entries):
    """Whether all that must be above these entries stands among them, as folders."""
    folders = {entry[1]: True for entry in entries if entry[0] == "folder"}
    for entry in entries:
        for path in above(entry[1]):
            if path not in folders:
                return False
    return True


def by_path(tree):
    """The entries of a tree by their paths."""
    return {entry[1]: entry for entry in tree}


def in_order(entries):
    """These entries in the order of a tree."""
    return tuple(sorted(entries, key=lambda entry: entry[1]))


def with_path(entry, path):
    """The entry with this path in the place of its own."""
    return (entry[0], path) + entry[2:]


def tree_of(entries):
    """The tree of entries that have texts for paths."""
    found = {}
    for entry in entries:
        path = clean(entry[1])
        found[path] = with_path(entry, path)
    for path in list(found):
        put_folders_above(found, path)
    return in_order(list(found.values()))


def put_folders_above(found, path):
    """Puts in the folders that lack above a path, refused with Clash if one has to stand where no folder does."""
    for folder in above(path):
        entry = found.setdefault(folder, ("folder", folder))
        if entry[0] != "folder":
            raise Clash("above an entry stands what is no folder")


def under(tree, path):
    """The tree of all below a folder."""
    check_folder(tree, path)
    ahead = path + "/"
    below = [entry for entry in tree if entry[1].startswith(ahead)]
    return tuple(with_path(entry, entry[1][len(ahead):]) for entry in below)


def put_under(tree, path, part):
    """The tree with the entries of the tree part in the place of all below a folder."""
    check_folder(tree, path)
    ahead = path + "/"
    kept = [entry for entry in tree if not entry[1].startswith(ahead)]
    come = [with_path(entry, ahead + entry[1]) for entry in part]
    check_parts(come)
    return in_order(kept + come)


def check_parts(entries):
    """Refuses entries of which one would have a path of too many parts."""
    for entry in entries:
        if len(parts_of(entry[1])) > MOST_PARTS:
            raise BadPath("a path would have too many parts")


def check_folder(tree, path):
    """Refuses a path at which no folder stands."""
    found = by_path(tree)
    if path not in found:
        raise NoEntry("nothing is at the path")
    if found[path][0] != "folder":
        raise NotFolder("what is at the path is no folder")


def differences(one, other):
    """What is gone, new and other in the other tree, rising by paths."""
    old = by_path(one)
    new = by_path(other)
    told = []
    for path in sorted(set(old) | set(new)):
        if path not in new:
            told.append(("gone", path))
        elif path not in old:
            told.append(("new", path))
        elif old[path] != new[path]:
            told.append(("other", path))
    return tuple(told)
