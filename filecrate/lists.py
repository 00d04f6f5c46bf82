"""Lists: the rows that tell the paths of a round, and where their pieces begin."""

from filecrate.numbers import number_bytes, read_number
from filecrate.signs import read_path, text_bytes

LIST_MARK = 9
# An end stands behind each list.
BYTES_OF_END = 10


def list_bytes(rows):
    """The bytes of a list with these rows, pairs of a path and a place."""
    told = [LIST_MARK]
    told.extend(number_bytes(len(rows)))
    for path, place in rows:
        told.extend(text_bytes(path) + number_bytes(place))
    return tuple(told)


def read_list(some, at):
    """The rows of the list whose mark stands at this place, and the place behind it."""
    many, behind = read_number(some, at + 1)
    rows = []
    while len(rows) < many:
        path, behind = read_path(some, behind)
        place, behind = read_number(some, behind)
        rows.append((path, place))
    return rows, behind
