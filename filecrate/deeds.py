"""Pressing of kind 1: a body as a row of deeds, which bring new bytes or copies of earlier ones."""

from filecrate.bodies import MOST_OF_BODY
from filecrate.errors import BadForm

MOST_NEW = 128
LEAST_COPIED = 3
MOST_COPIED = 130
MOST_BACK = 256
FIRST_COPY = 128


def body_deeds(body):
    """Deeds of a body, of as few bytes as can be."""
    steps = cheapest_steps(body)
    told = []
    at = 0
    while at < len(body):
        many, back = steps[at]
        told.extend(deed_bytes(body, at, many, back))
        at += many
    return tuple(told)


def deed_bytes(body, at, many, back):
    """The bytes of the deed that brings so many bytes at this place, new ones if it goes 0 places back."""
    if back == 0:
        return (many - 1,) + body[at:at + many]
    return (many - LEAST_COPIED + FIRST_COPY, back - 1)


def cheapest_steps(body):
    """For each place how many bytes, and from how far back, the first deed of a shortest row brings from there on."""
    copies = longest_copies(body)
    costs = [0] * (len(body) + 1)
    steps = [(0, 0)] * len(body)
    for at in range(len(body) - 1, -1, -1):
        longest, back = copies[at]
        costs[at], many = cheapest_new(costs, at)
        steps[at] = (many, 0)
        if longest >= LEAST_COPIED:
            cost, many = cheapest_copy(costs, at, longest)
            if cost < costs[at]:
                costs[at] = cost
                steps[at] = (many, back)
    return steps


def cheapest_new(costs, at):
    """The least cost from this place on if new bytes come first, and how many of them."""
    most = min(MOST_NEW, len(costs) - 1 - at)
    ways = [1 + many + costs[at + many] for many in range(1, most + 1)]
    cost = min(ways)
    return cost, ways.index(cost) + 1


def cheapest_copy(costs, at, longest):
    """The least cost from this place on if copied bytes come first, and how many of them."""
    # The longest copy is not always best: one byte or two that it leaves over can cost more than three.
    ways = [2 + costs[at + many] for many in range(LEAST_COPIED, longest + 1)]
    cost = min(ways)
    return cost, ways.index(cost) + LEAST_COPIED


def longest_copies(body):
    """For each place how many bytes at most can be copied to it, and from how far back."""
    told = []
    earlier = {}
    many = 0
    back = 0
    for at in range(len(body)):
        # A copy to the place ahead goes on here, one byte shorter, so just longer ones are looked for.
        many = max(0, many - 1)
        three = body[at:at + LEAST_COPIED]
        near = [start for start in earlier.get(three, []) if at - start <= MOST_BACK]
        for start in near:
            while can_copy(body, start, at, many + 1):
                many += 1
                back = at - start
        told.append((many, back))
        earlier[three] = near + [at]
    return told


def can_copy(body, start, at, many):
    """Whether one deed can copy so many bytes from start on to this place."""
    if many > MOST_COPIED or at + many > len(body):
        return False
    # Most rows that are unlike are so in their last byte, which is quicker to tell than the whole.
    if body[start + many - 1] != body[at + many - 1]:
        return False
    return body[start:start + many] == body[at:at + many]


def body_of_deeds(some):
    """The body that these deeds bring, refused with BadForm if they are none."""
    body = []
    at = 0
    while at < len(some):
        if some[at] < FIRST_COPY:
            behind = at + some[at] + 2
            check_whole(some, behind)
            body.extend(some[at + 1:behind])
        else:
            behind = at + 2
            check_whole(some, behind)
            add_copies(body, some[at] - FIRST_COPY + LEAST_COPIED, some[at + 1] + 1)
        if len(body) > MOST_OF_BODY:
            raise BadForm("the deeds bring too many bytes")
        at = behind
    return tuple(body)


def check_whole(some, behind):
    """Refuses a deed that would end behind the bytes."""
    if behind > len(some):
        raise BadForm("a deed is cut")


def add_copies(body, many, back):
    """Adds so many bytes to the list, each the one that stands so far back."""
    if back > len(body):
        raise BadForm("a deed looks ahead of the begin of the body")
    # One by one, since a byte that this deed brought may be copied again.
    for k in range(many):
        body.append(body[len(body) - back])
