"""Paths and goals as bytes: how many signs one has, and its signs."""

from filecrate.errors import BadForm
from filecrate.numbers import number_bytes, read_bytes, read_number
from filecrate.paths import SIGNS, is_goal, is_path


def text_bytes(text):
    """The bytes of a path or a goal."""
    return number_bytes(len(text)) + tuple(ord(sign) for sign in text)


def read_path(some, at):
    """The path whose bytes begin at this place, and the place behind it."""
    text, behind = read_text(some, at)
    if not is_path(text):
        raise BadForm("signs make no path")
    return text, behind


def read_goal(some, at):
    """The goal whose bytes begin at this place, and the place behind it."""
    text, behind = read_text(some, at)
    if not is_goal(text):
        raise BadForm("signs make no goal")
    return text, behind


def read_text(some, at):
    """The text whose bytes begin at this place, and the place behind it."""
    many, begin = read_number(some, at)
    told, behind = read_bytes(some, begin, many)
    signs = {ord(sign): sign for sign in SIGNS + "/"}
    for byte in told:
        if byte not in signs:
            raise BadForm("a byte is no sign")
    return "".join([signs[byte] for byte in told]), behind
