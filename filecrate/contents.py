"""What stands in a crate: its pieces and its rounds, read from the first byte to the last."""

from filecrate.bodies import is_bytes
from filecrate.checks import check_of, check_on
from filecrate.errors import BadCrate, BadForm, Cut
from filecrate.lists import LIST_MARK, read_list
from filecrate.numbers import byte_at, read_fixed
from filecrate.pieces import read_piece
from filecrate.trees import are_tree

HEAD = (70, 67, 49)


class Contents:
    """The pieces of a crate, by the places where they begin, and its rounds."""

    def __init__(self):
        self.pieces = {}
        self.rounds = []


class Round:
    """A round: the pieces that its rows tell, where it ends, and the check of all bytes of the crate up to there."""

    def __init__(self, told, end, check):
        self.told = told
        self.end = end
        self.check = check


def contents_of(crate):
    """What stands in a crate, refused with BadCrate if it is none."""
    if not is_bytes(crate):
        raise BadCrate("these are no bytes")
    try:
        return read_contents(crate)
    except (Cut, BadForm):
        raise BadCrate("these bytes are no crate") from None


def read_contents(crate):
    """What stands in a crate, refused with Cut or BadForm if it is none."""
    if not begins_with_head(crate):
        raise BadForm("the head is another one")
    contents = Contents()
    at = len(HEAD)
    check = check_of(HEAD)
    # There is one round at least, so bytes that end behind the head are cut.
    while at < len(crate) or not contents.rounds:
        found = read_round(crate, at, check, contents.pieces)
        contents.rounds.append(found)
        at = found.end
        check = found.check
    return contents


def begins_with_head(some):
    """Whether bytes begin as a crate does."""
    return some[:len(HEAD)] == HEAD


def read_round(crate, begin, before, pieces):
    """The round that begins at this place; its pieces come to those of the rounds ahead, whose check is before."""
    at = begin
    while byte_at(crate, at) != LIST_MARK:
        pieces[at] = read_piece(crate, at)
        at = pieces[at].end
    rows, behind = read_list(crate, at)
    told = [piece_of_row(pieces, path, place) for path, place in rows]
    if not are_tree([piece.entry for piece in told]):
        raise BadForm("the rows of a list are no tree")
    end, check = read_end(crate, behind, (at, begin), before)
    return Round(told, end, check)


def piece_of_row(pieces, path, place):
    """The piece with this path that begins at this place."""
    if place not in pieces or pieces[place].entry[1] != path:
        raise BadForm("a row tells a place where no piece of its path begins")
    return pieces[place]


def read_end(crate, at, places, before):
    """The place behind the end of a round that tells these places, and the check of all bytes up to there."""
    list_place, behind = read_fixed(crate, at, 4)
    begin, behind = read_fixed(crate, behind, 4)
    if (list_place, begin) != places:
        raise BadForm("a place in an end is another one")
    # Only the bytes of this round are walked, or many rounds would take far too long.
    check = check_on(before, crate[begin:behind])
    told_check, end = read_fixed(crate, behind, 2)
    if told_check != check:
        raise BadForm("the check of a round is another one")
    return end, check_on(check, crate[behind:end])
