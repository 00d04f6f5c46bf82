"""Where the ways over links end."""

from filecrate.errors import LeadsOut, NoEntry, NotFolder, TooFar
from filecrate.paths import parts_of
from filecrate.trees import by_path

MOST_LINKS = 20


def landing(tree, path):
    """The path where the way of a path ends, an empty text for the top."""
    found = by_path(tree)
    here = []
    left = parts_of(path)
    links = 0
    while left:
        part = left[0]
        left = left[1:]
        if part == "..":
            here = folder_above(here)
            continue
        entry = entry_at(found, here + [part])
        if entry[0] == "link":
            links += 1
            if links > MOST_LINKS:
                raise TooFar("too many links are on one way")
            left = parts_of(entry[2]) + left
            continue
        if entry[0] == "file" and left:
            raise NotFolder("a way goes on behind a file")
        here = here + [part]
    return "/".join(here)


def folder_above(parts):
    """The parts of the folder above this one, refused with LeadsOut at the top."""
    if not parts:
        raise LeadsOut("a way leads out above the top")
    return parts[:-1]


def entry_at(found, parts):
    """The entry at the path of these parts, refused with NoEntry where nothing is."""
    path = "/".join(parts)
    if path not in found:
        raise NoEntry("nothing is where a way leads")
    return found[path]


def ways_out(tree):
    """The paths of all links whose landing is refused with LeadsOut."""
    return tuple(entry[1] for entry in tree if entry[0] == "link" and leads_out(tree, entry[1]))


def leads_out(tree, path):
    """Whether the landing of a path is refused with LeadsOut."""
    try:
        landing(tree, path)
    except LeadsOut:
        return True
    except (NoEntry, NotFolder, TooFar):
        return False
    return False
