"""Whole numbers as bytes: of as few bytes as can be, and of a fixed number of bytes."""

from filecrate.errors import BadForm, Cut

MOST_BYTES = 6


def number_bytes(n):
    """The bytes of n, its parts by 128, the lowest first."""
    told = []
    left = n
    while left > 127:
        told.append(left % 128 + 128)
        left = left // 128
    told.append(left)
    return tuple(told)


def read_number(some, at):
    """The number whose bytes begin at this place, and the place behind it."""
    number = 0
    worth = 1
    place = at
    byte = byte_at(some, place)
    while byte > 127:
        if place - at + 1 == MOST_BYTES:
            raise BadForm("a number goes on behind its sixth byte")
        number += (byte - 128) * worth
        worth = worth * 128
        place += 1
        byte = byte_at(some, place)
    # A highest part of 0 could be left out, so the bytes would not be as few as can be.
    if byte == 0 and place > at:
        raise BadForm("a number ends with a needless 0")
    return number + byte * worth, place + 1


def fixed_bytes(n, many):
    """So many bytes of n, its parts by 256, the highest first."""
    told = []
    left = n
    while len(told) < many:
        told.append(left % 256)
        left = left // 256
    return tuple(told[::-1])


def read_fixed(some, at, many):
    """The number of so many bytes from this place on, and the place behind them."""
    number = 0
    for place in range(at, at + many):
        number = number * 256 + byte_at(some, place)
    return number, at + many


def read_bytes(some, at, many):
    """So many bytes from this place on, and the place behind them."""
    behind = at + many
    if behind > len(some):
        raise Cut("there are fewer bytes than told")
    return some[at:behind], behind


def byte_at(some, place):
    """The byte at this place, refused with Cut where there is none."""
    # Python would count a place below 0 from the end, where the bytes have no such place.
    if place < 0 or place >= len(some):
        raise Cut("the bytes end ahead of the end of a number")
    return some[place]
