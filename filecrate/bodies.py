"""What bytes are, and what a body is."""

MOST_OF_BODY = 1000


def is_body(thing):
    """Whether a thing is a body."""
    return is_bytes(thing) and len(thing) <= MOST_OF_BODY


def is_bytes(thing):
    """Whether a thing is bytes."""
    return isinstance(thing, tuple) and all(is_byte(part) for part in thing)


def is_byte(thing):
    """Whether a thing is a whole number from 0 to 255."""
    # Truths are ints for Python, but no whole numbers.
    if isinstance(thing, bool) or not isinstance(thing, int):
        return False
    return 0 <= thing <= 255
