"""Pressing of kind 2: a body as words of bits, the shorter the more often their bytes stand in it."""

from filecrate.bodies import MOST_OF_BODY
from filecrate.errors import BadForm, Cut
from filecrate.numbers import number_bytes, read_fixed, read_number

LONGEST_WORD = 30


def body_words(body):
    """The head and the words of a body, of as few bytes as can be."""
    lengths = word_lengths(counted(body))
    bits = {byte: word_bits(number, length) for length, number, byte in words_of(lengths)}
    told = []
    for byte in body:
        told.extend(bits[byte])
    return head_of(lengths, len(body)) + bytes_of_bits(told)


def counted(body):
    """How often each byte stands in a body."""
    counts = {}
    for byte in body:
        counts[byte] = counts.get(byte, 0) + 1
    return counts


def word_lengths(counts):
    """For each byte how long its word is, so that all words of the body have as few bits as can be."""
    if len(counts) == 1:
        return {byte: 1 for byte in counts}
    lengths = {byte: 0 for byte in counts}
    groups = sorted([(counts[byte], (byte,)) for byte in counts])
    while len(groups) > 1:
        # The two rarest groups are put together, which makes each word in them one bit longer.
        many = groups[0][0] + groups[1][0]
        members = groups[0][1] + groups[1][1]
        for byte in members:
            lengths[byte] += 1
        groups = sorted(groups[2:] + [(many, members)])
    return lengths


def words_of(lengths):
    """The words as rows of how long one is, its number and its byte, in their order."""
    told = []
    number = 0
    ahead = 0
    for length, byte in sorted([(lengths[byte], byte) for byte in lengths]):
        if told:
            number = (number + 1) << (length - ahead)
        told.append((length, number, byte))
        ahead = length
    return told


def word_bits(number, length):
    """The bits of a word, the highest first."""
    return [(number >> place) & 1 for place in range(length - 1, -1, -1)]


def head_of(lengths, many):
    """The head of a body of many bytes."""
    told = number_bytes(len(lengths))
    for byte in sorted(lengths):
        told = told + (byte, lengths[byte])
    return told + number_bytes(many)


def bytes_of_bits(bits):
    """The bits as bytes, with 0 for the rest of the last one."""
    whole = bits + [0] * (-len(bits) % 8)
    return tuple(byte_of_bits(whole[at:at + 8]) for at in range(0, len(whole), 8))


def byte_of_bits(bits):
    """The byte of eight bits, the highest first."""
    byte = 0
    for bit in bits:
        byte = byte * 2 + bit
    return byte


def body_of_words(some):
    """The body that a head and words tell, refused with BadForm if they are none."""
    lengths, at = read_lengths(some)
    check_lengths(lengths)
    many, at = read_head_number(some, at)
    if many > MOST_OF_BODY:
        raise BadForm("the head tells of too many bytes")
    words = {(length, number): byte for length, number, byte in words_of(lengths)}
    body = []
    place = at * 8
    while len(body) < many:
        byte, place = read_word(words, some, place)
        body.append(byte)
    check_rest(some, place)
    return tuple(body)


def read_lengths(some):
    """For each byte of the head how long its word is, and the place behind them."""
    many, at = read_head_number(some, 0)
    lengths = {}
    last = -1
    while len(lengths) < many:
        byte, at = read_head_byte(some, at)
        if byte <= last:
            raise BadForm("the bytes in the head do not rise")
        lengths[byte], at = read_head_byte(some, at)
        last = byte
    return lengths, at


def read_head_number(some, at):
    """The number of the head at this place, and the place behind it."""
    try:
        return read_number(some, at)
    except Cut:
        raise BadForm("a number in the head is cut") from None


def read_head_byte(some, at):
    """The byte of the head at this place, and the place behind it."""
    try:
        return read_fixed(some, at, 1)
    except Cut:
        raise BadForm("the head is cut") from None


def check_lengths(lengths):
    """Refuses words that are not as long, or together not one, as they must be."""
    for byte in lengths:
        if lengths[byte] < 1 or lengths[byte] > LONGEST_WORD:
            raise BadForm("a word is too short or too long")
    if len(lengths) == 1 and max(lengths.values()) != 1:
        raise BadForm("the only word has more than one bit")
    # Counted in shares of the longest word, so that all of them are whole numbers.
    shares = sum(1 << (LONGEST_WORD - lengths[byte]) for byte in lengths)
    if len(lengths) > 1 and shares != 1 << LONGEST_WORD:
        raise BadForm("the words together are not one")


def read_word(words, some, place):
    """The byte whose word begins with this bit, and the place of the bit behind it."""
    length = 0
    number = 0
    while (length, number) not in words:
        if length == LONGEST_WORD:
            raise BadForm("bits are no word")
        number = number * 2 + bit_at(some, place + length)
        length += 1
    return words[(length, number)], place + length


def bit_at(some, place):
    """The bit at this place, the highest of a byte first."""
    at, behind = divmod(place, 8)
    if at >= len(some):
        raise BadForm("there are too few bits")
    return (some[at] >> (7 - behind)) & 1


def check_rest(some, place):
    """Refuses bits but 0, and bytes, behind the last word."""
    if len(some) * 8 - place > 7:
        raise BadForm("bytes stand behind the words")
    for rest in range(place, len(some) * 8):
        if bit_at(some, rest) == 1:
            raise BadForm("a bit of the rest is not 0")
