"""Bodies pressed into fewer bytes: as they are, as deeds, or as words."""

from filecrate.bodies import MOST_OF_BODY
from filecrate.deeds import body_deeds, body_of_deeds
from filecrate.errors import BadForm
from filecrate.words import body_of_words, body_words

KINDS = (0, 1, 2)


def pressed(kind, body):
    """The bytes of this kind for a body, as few as can be."""
    if kind == 0:
        return body
    if kind == 1:
        return body_deeds(body)
    return body_words(body)


def unpressed(kind, some):
    """The body that bytes of this kind tell, refused with BadForm if they are not of the kind."""
    if kind not in KINDS:
        raise BadForm("there is no such kind")
    if kind == 1:
        return body_of_deeds(some)
    if kind == 2:
        return body_of_words(some)
    if len(some) > MOST_OF_BODY:
        raise BadForm("these are too many bytes for a body")
    return some


def best_kind(body):
    """The lowest one of the kinds whose bytes are fewest."""
    return best_pressed(body)[0]


def best_pressed(body):
    """The best kind of a body, and its bytes of this kind."""
    ways = [pressed(kind, body) for kind in KINDS]
    many = [len(some) for some in ways]
    kind = many.index(min(many))
    return kind, ways[kind]
