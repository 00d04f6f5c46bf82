"""The sum of a body: it tells when one byte is another one, or two neighbours changed places."""

RESTS_BY = 65521
HIGH_WORTH = 65536
EMPTY_SUM = 1


def sum_of(body):
    """The sum of a body."""
    return sum_on(EMPTY_SUM, body)


def sum_on(before, body):
    """The sum of a body whose sum was before, with this body behind it."""
    high, low = divmod(before, HIGH_WORTH)
    for byte in body:
        low += byte
        high += low
    return told_sum(high, low)


def sum_joined(one, other, many):
    """The sum of two bodies one behind the other, by their sums and how many bytes the other has."""
    one_high, one_low = divmod(one, HIGH_WORTH)
    other_high, other_low = divmod(other, HIGH_WORTH)
    # The other body's low began at 1: behind the first body it is greater by this at each of its bytes.
    more = one_low - EMPTY_SUM
    return told_sum(one_high + other_high + many * more, other_low + more)


def sum_changed(before, many, place, old, new):
    """The sum of a body of many bytes, whose sum was before, when at this place old becomes new."""
    high, low = divmod(before, HIGH_WORTH)
    more = new - old
    # A byte is in low, and so goes into high, from its place on to the end of the body.
    return told_sum(high + (many - place) * more, low + more)


def told_sum(high, low):
    """The sum that is told of a high and a low."""
    return (high % RESTS_BY) * HIGH_WORTH + (low % RESTS_BY)
