"""Crates and volumes written and read by hand, by the words of the document and without the program."""

MARKS = {"folder": 1, "file": 2, "link": 3}
HEAD = (70, 67, 49)


def number(n):
    told = ()
    while n >= 128:
        told += (128 + n % 128,)
        n //= 128
    return told + (n,)


def fixed(n, many):
    return tuple(n.to_bytes(many, "big"))


def check(some):
    # The rest of a long division of bits, which is another way to the mark than the document's.
    rest = 0
    for bit in "".join(f"{byte:08b}" for byte in some) + "0" * 16:
        rest = rest * 2 + int(bit)
        if rest >= 65536:
            rest ^= 65536 + 4129
    shift = 65535
    for _ in range(8 * len(some)):
        shift *= 2
        if shift >= 65536:
            shift ^= 65536 + 4129
    return rest ^ shift


def body_sum(body):
    low = 1 + sum(body)
    high = len(body) + sum((len(body) - place) * byte for place, byte in enumerate(body))
    return high % 65521 * 65536 + low % 65521


def text(some):
    return number(len(some)) + tuple(some.encode("ascii"))


def checked(some):
    return some + fixed(check(some), 2)


def piece(entry, kind=0, few=None, many=None, told_sum=None):
    """The bytes of an entry, its body pressed as told, or as it is."""
    told = (MARKS[entry[0]],) + text(entry[1])
    if entry[0] == "link":
        told += text(entry[2])
    if entry[0] == "file":
        body = entry[2]
        few = body if few is None else few
        many = len(body) if many is None else many
        told_sum = body_sum(body) if told_sum is None else told_sum
        told += (kind,) + number(many) + number(len(few)) + fixed(told_sum, 4) + few
    return checked(told)


def listing(rows):
    told = (9,) + number(len(rows))
    for path, place in rows:
        told += text(path) + number(place)
    return told


def with_end(some, list_place, begin):
    return checked(some + fixed(list_place, 4) + fixed(begin, 4))


def with_round(ahead, pieces, rows):
    """The bytes ahead and one round more; rows are pairs of a path and a place."""
    some = ahead + sum(pieces, ())
    return with_end(some + listing(rows), len(some), len(ahead))


def crate(tree, ahead=HEAD, kinds=None):
    """The bytes ahead and a round with a piece for each entry, bodies as they are, or by path as pair of kind and bytes."""
    pieces = []
    rows = []
    place = len(ahead)
    for entry in tree:
        kind, few = (kinds or {}).get(entry[1], (0, None))
        some = piece(entry, kind, few)
        pieces.append(some)
        rows.append((entry[1], place))
        place += len(some)
    return with_round(ahead, pieces, rows)


class Reader:
    """Reads on in bytes; raises AssertionError where they are not as told."""

    def __init__(self, some, at=0):
        self.some = some
        self.at = at

    def take(self, many):
        told = self.some[self.at:self.at + many]
        assert len(told) == many, "the bytes end"
        self.at += many
        return told

    def number(self):
        told = [self.take(1)[0]]
        while told[-1] >= 128:
            told.append(self.take(1)[0])
        n = sum(part % 128 * 128 ** place for place, part in enumerate(told))
        assert number(n) == tuple(told), "not as few bytes as can be"
        return n

    def fixed(self, many):
        return int.from_bytes(bytes(self.take(many)), "big")

    def text(self):
        return bytes(self.take(self.number())).decode("ascii")


def read_pieces(some, at):
    """The pieces from a place on as dicts, and the place behind them."""
    reader = Reader(some, at)
    told = []
    while some[reader.at] in (1, 2, 3):
        begin = reader.at
        mark = reader.take(1)[0]
        found = {"begin": begin, "word": {1: "folder", 2: "file", 3: "link"}[mark], "path": reader.text()}
        if mark == 3:
            found["goal"] = reader.text()
        if mark == 2:
            found["kind"] = reader.take(1)[0]
            found["many"] = reader.number()
            found["few"] = reader.number()
            found["sum"] = reader.fixed(4)
            found["pressed"] = reader.take(found["few"])
        assert check(some[begin:reader.at]) == reader.fixed(2), "the check of a piece"
        found["end"] = reader.at
        told.append(found)
    return told, reader.at


def read_rounds(some):
    """The rounds of a crate as dicts: its pieces, the rows, and where it begins and ends."""
    assert some[:3] == HEAD
    at = 3
    told = []
    while at < len(some):
        begin = at
        pieces, list_place = read_pieces(some, at)
        reader = Reader(some, list_place)
        assert reader.take(1) == (9,)
        rows = []
        for _ in range(reader.number()):
            path = reader.text()
            rows.append((path, reader.number()))
        assert reader.fixed(4) == list_place
        assert reader.fixed(4) == begin
        assert check(some[:reader.at]) == reader.fixed(2)
        at = reader.at
        told.append({"pieces": pieces, "rows": rows, "begin": begin, "list": list_place, "end": at})
    return told


def volume(numbered, most, total, whole_check, body):
    return checked((70, 86) + number(numbered) + number(most) + number(total) + fixed(whole_check, 2) + body)


def volumes(some, most):
    bodies = [some[at:at + most] for at in range(0, len(some), most)]
    spare = ()
    for place in range(len(bodies[0])):
        bits = 0
        for bit in (1, 2, 4, 8, 16, 32, 64, 128):
            if sum(1 for body in bodies if place < len(body) and body[place] & bit) % 2 == 1:
                bits += bit
        spare += (bits,)
    return tuple(volume(k, most, len(some), check(some), body) for k, body in enumerate(bodies + [spare]))
