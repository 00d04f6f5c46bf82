"""What can be had from crates that are cut or spoilt."""

from filecrate.contents import HEAD, begins_with_head
from filecrate.errors import BadForm, Cut
from filecrate.lists import BYTES_OF_END, LIST_MARK, read_list
from filecrate.numbers import read_bytes
from filecrate.pieces import read_piece


def rescued(some):
    """The entries of all pieces from the head on, up to the first place where nothing stands whole."""
    if not begins_with_head(some):
        return ()
    told = []
    at = len(HEAD)
    while at < len(some):
        try:
            at = pass_one(some, at, told)
        except (Cut, BadForm):
            break
    return tuple(told)


def pass_one(some, at, told):
    """The place behind the piece, or the list and the end, that stands at this place; an entry comes to those told."""
    if some[at] == LIST_MARK:
        behind = read_list(some, at)[1]
        # An end is there to tell whether all is right, so nothing of it counts where something is not.
        return read_bytes(some, behind, BYTES_OF_END)[1]
    piece = read_piece(some, at)
    told.append(piece.entry)
    return piece.end
