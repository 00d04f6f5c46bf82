"""The check of bytes: it tells when one byte, or two neighbouring ones, are others."""

FIRST_MARK = 65535
TOP_BIT = 32768
MARK_LIMIT = 65536
TURNED_BITS = 4129
BITS_OF_BYTE = (128, 64, 32, 16, 8, 4, 2, 1)


def check_of(some):
    """The check of bytes."""
    return check_on(FIRST_MARK, some)


def check_on(before, some):
    """The check of bytes whose check was before, with these bytes behind them."""
    mark = before
    for byte in some:
        for bit in BITS_OF_BYTE:
            mark = next_mark(mark, (byte & bit) > 0)
    return mark


def next_mark(mark, bit_is_set):
    """The mark behind one bit more."""
    top_is_set = mark >= TOP_BIT
    doubled = (mark * 2) % MARK_LIMIT
    if bit_is_set != top_is_set:
        return doubled ^ TURNED_BITS
    return doubled
