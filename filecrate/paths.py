"""Paths, and the texts that lead to them."""

from filecrate.errors import BadPath, LeadsOut

SIGNS = "abcdefghijklmnopqrstuvwxyz0123456789_-."
MOST_SIGNS = 12
MOST_PARTS = 8


def is_path(thing):
    """Whether a thing is a path."""
    return is_row_of(thing, is_part)


def is_goal(thing):
    """Whether a thing is what a link can lead to."""
    return is_row_of(thing, lambda piece: piece == ".." or is_part(piece))


def is_row_of(thing, is_right):
    """Whether a thing is a text of 1 to 8 right pieces with strokes between."""
    if not isinstance(thing, str):
        return False
    pieces = thing.split("/")
    return len(pieces) <= MOST_PARTS and all(is_right(piece) for piece in pieces)


def is_part(text):
    """Whether a text is a part of a path."""
    if text == "." or text == "..":
        return False
    return 1 <= len(text) <= MOST_SIGNS and all(sign in SIGNS for sign in text)


def parts_of(path):
    """The parts of a path or a goal, none of the top."""
    if path == "":
        return []
    return path.split("/")


def clean(text):
    """The path to which a text leads."""
    if text.startswith("/"):
        raise LeadsOut("a text begins at the top")
    kept = []
    for piece in text.split("/"):
        keep_piece(kept, piece)
    path = "/".join(kept)
    if not is_path(path):
        raise BadPath("a text leads to no path")
    return path


def keep_piece(kept, piece):
    """Goes on by one piece from the parts that are kept."""
    if piece == "" or piece == ".":
        return
    if piece == "..":
        if not kept:
            raise LeadsOut("a text leads out above the top")
        kept.pop()
        return
    if not is_part(piece):
        raise BadPath("a piece of a text is no part")
    kept.append(piece)


def above(path):
    """The paths of all folders above a path, the shortest first."""
    parts = parts_of(path)
    return tuple("/".join(parts[:many]) for many in range(1, len(parts)))


def way_between(folder, goal):
    """The way that leads from a folder, an empty text for the top, to a goal."""
    ahead = parts_of(folder)
    behind = parts_of(goal)
    alike = many_alike(ahead, behind)
    way = [".."] * (len(ahead) - alike) + behind[alike:]
    if not way:
        return "."
    return "/".join(way)


def many_alike(one, other):
    """With how many parts both begin."""
    many = 0
    for part, beside in zip(one, other):
        if part != beside:
            return many
        many += 1
    return many
