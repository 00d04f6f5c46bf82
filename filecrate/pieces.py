"""Pieces: the bytes of entries, as they stand in crates."""

from filecrate.checks import check_of
from filecrate.errors import BadForm
from filecrate.numbers import byte_at, fixed_bytes, number_bytes, read_bytes, read_fixed, read_number
from filecrate.pressing import best_pressed, unpressed
from filecrate.signs import read_goal, read_path, text_bytes
from filecrate.sums import sum_of

FOLDER_MARK = 1
FILE_MARK = 2
LINK_MARK = 3


class Piece:
    """A piece that stands in bytes: its entry, how many bytes its body has pressed, and where it begins and ends."""

    def __init__(self, entry, few, begin, end):
        self.entry = entry
        self.few = few
        self.begin = begin
        self.end = end


def piece_bytes(entry):
    """The bytes of an entry."""
    if entry[0] == "folder":
        told = (FOLDER_MARK,) + text_bytes(entry[1])
    elif entry[0] == "file":
        told = (FILE_MARK,) + text_bytes(entry[1]) + body_bytes(entry[2])
    else:
        told = (LINK_MARK,) + text_bytes(entry[1]) + text_bytes(entry[2])
    return told + fixed_bytes(check_of(told), 2)


def body_bytes(body):
    """The bytes of a body as they stand in a piece, pressed by its best kind."""
    kind, few = best_pressed(body)
    return (kind,) + number_bytes(len(body)) + number_bytes(len(few)) + fixed_bytes(sum_of(body), 4) + few


def read_piece(some, at):
    """The piece that stands at this place, refused with Cut or BadForm where none is whole."""
    mark = byte_at(some, at)
    path, behind = read_path(some, at + 1)
    few = 0
    if mark == FOLDER_MARK:
        entry = ("folder", path)
    elif mark == FILE_MARK:
        body, few, behind = read_body(some, behind)
        entry = ("file", path, body)
    elif mark == LINK_MARK:
        goal, behind = read_goal(some, behind)
        entry = ("link", path, goal)
    else:
        raise BadForm("there are no such pieces")
    check, end = read_fixed(some, behind, 2)
    if check != check_of(some[at:behind]):
        raise BadForm("the check of a piece is another one")
    return Piece(entry, few, at, end)


def read_body(some, at):
    """The body that stands at this place of a piece, how many bytes it has pressed, and the place behind it."""
    kind = byte_at(some, at)
    many, behind = read_number(some, at + 1)
    few, behind = read_number(some, behind)
    told_sum, behind = read_fixed(some, behind, 4)
    told, behind = read_bytes(some, behind, few)
    body = unpressed(kind, told)
    if len(body) != many:
        raise BadForm("a body has not as many bytes as told")
    if sum_of(body) != told_sum:
        raise BadForm("the sum of a body is another one")
    return body, few, behind
