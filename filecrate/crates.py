"""Crates: trees kept as one row of bytes, to which each change adds a round."""

from filecrate.checks import check_of
from filecrate.contents import HEAD, contents_of
from filecrate.errors import NoEntry
from filecrate.lists import list_bytes
from filecrate.numbers import fixed_bytes
from filecrate.pieces import piece_bytes


def crate_of(tree):
    """A crate of one round, of this tree."""
    return with_round(HEAD, {}, tree)


def changed(crate, tree):
    """The crate and one round more behind it, of this tree."""
    return with_round(crate, first_places(contents_of(crate)), tree)


def first_places(contents):
    """For each entry that has a piece the place where the first one begins."""
    places = {}
    for place in contents.pieces:
        places.setdefault(contents.pieces[place].entry, place)
    return places


def with_round(ahead, places, tree):
    """These bytes and a round of the tree behind them, with new pieces for entries that have no place yet."""
    told = list(ahead)
    rows = []
    for entry in tree:
        rows.append((entry[1], places.get(entry, len(told))))
        if entry not in places:
            told.extend(piece_bytes(entry))
    list_place = len(told)
    told.extend(list_bytes(rows))
    told.extend(fixed_bytes(list_place, 4) + fixed_bytes(len(ahead), 4))
    told.extend(fixed_bytes(check_of(told), 2))
    return tuple(told)


def read(crate):
    """The tree of the last round."""
    return tree_of_round(contents_of(crate).rounds[-1])


def tree_of_round(found):
    """The tree of a round."""
    return tuple(piece.entry for piece in found.told)


def listed(crate):
    """For each entry of the last round its path, its word, and how many bytes its body has as it is and pressed."""
    return tuple(row_of(piece) for piece in contents_of(crate).rounds[-1].told)


def row_of(piece):
    """What is listed of a piece."""
    entry = piece.entry
    many = len(entry[2]) if entry[0] == "file" else 0
    return entry[1], entry[0], many, piece.few


def taken(crate, path):
    """The entry of the last round at this path."""
    entry = entry_of_round(contents_of(crate).rounds[-1], path)
    if entry is None:
        raise NoEntry("nothing is at the path")
    return entry


def entry_of_round(found, path):
    """The entry of a round at this path, None where there is none."""
    for piece in found.told:
        if piece.entry[1] == path:
            return piece.entry
    return None


def rounds(crate):
    """How many rounds a crate has."""
    return len(contents_of(crate).rounds)


def earlier(crate):
    """The crate without its last round, None where that is the only one."""
    found = contents_of(crate).rounds
    if len(found) == 1:
        return None
    return crate[:found[-2].end]


def history(crate, path):
    """For each round the entry at this path, None where there is none."""
    return tuple(entry_of_round(found, path) for found in contents_of(crate).rounds)


def spare_bytes(crate):
    """How many bytes the pieces have together that no row of the last list tells."""
    contents = contents_of(crate)
    told = {piece.begin: True for piece in contents.rounds[-1].told}
    spare = [contents.pieces[place] for place in contents.pieces if place not in told]
    return sum(piece.end - piece.begin for piece in spare)


def squeezed(crate):
    """A crate of one round, of the same tree."""
    return crate_of(read(crate))
