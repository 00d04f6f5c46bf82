"""Volumes: bytes shared out in such a way that one of the volumes may be lost."""

from filecrate.bodies import is_bytes
from filecrate.checks import check_of
from filecrate.errors import BadForm, BadVolume, Cut, Missing, NotTogether
from filecrate.numbers import fixed_bytes, number_bytes, read_bytes, read_fixed, read_number

HEAD = (70, 86)
MOST_OF_VOLUME = 1000
MOST_SHARED = 20000


class Volume:
    """A volume: its number, most, how many bytes were shared out and their check, and its body."""

    def __init__(self, number, most, total, check, body):
        self.number = number
        self.most = most
        self.total = total
        self.check = check
        self.body = body


def shared(some, most):
    """The volumes of bytes, with bodies of at most so many."""
    # Bodies of no bytes would never come to an end.
    step = max(1, most)
    bodies = [some[at:at + step] for at in range(0, len(some), step)]
    bodies.append(odd_bits(bodies, min(step, len(some))))
    check = check_of(some)
    volumes = [Volume(number, most, len(some), check, body) for number, body in enumerate(bodies)]
    return tuple(volume_bytes(volume) for volume in volumes)


def odd_bits(bodies, many):
    """So many bytes, each with just those bits that stand at its place in an odd number of the bodies."""
    told = [0] * many
    for body in bodies:
        for place, byte in enumerate(body):
            told[place] = told[place] ^ byte
    return tuple(told)


def volume_bytes(volume):
    """The bytes of a volume."""
    told = HEAD + number_bytes(volume.number) + number_bytes(volume.most) + number_bytes(volume.total)
    told = told + fixed_bytes(volume.check, 2) + volume.body
    return told + fixed_bytes(check_of(told), 2)


def said(volume):
    """The number of a volume, and how many there are but the spare one."""
    found = volume_of(volume)
    return found.number, many_bodies(found.most, found.total)


def many_bodies(most, total):
    """How many volumes there are but the spare one, whose number this is."""
    return (total + most - 1) // most


def length_of_body(number, most, total):
    """How many bytes the body of the volume with this number has."""
    if number == many_bodies(most, total):
        return min(most, total)
    return min(most, total - number * most)


def volume_of(some):
    """The volume that bytes are, refused with BadVolume if they are none."""
    if not is_bytes(some):
        raise BadVolume("these are no bytes")
    try:
        return read_volume(some)
    except (Cut, BadForm):
        raise BadVolume("these bytes are no volume") from None


def read_volume(some):
    """The volume that bytes are, refused with Cut or BadForm if they are none."""
    head, at = read_bytes(some, 0, len(HEAD))
    number, at = read_number(some, at)
    most, at = read_number(some, at)
    total, at = read_number(some, at)
    if head != HEAD or not 1 <= most <= MOST_OF_VOLUME or not 1 <= total <= MOST_SHARED:
        raise BadForm("the head of a volume is another one")
    if number > many_bodies(most, total):
        raise BadForm("there is no volume of this number")
    check, at = read_fixed(some, at, 2)
    body, at = read_bytes(some, at, length_of_body(number, most, total))
    told_check, end = read_fixed(some, at, 2)
    if end != len(some) or told_check != check_of(some[:at]):
        raise BadForm("the check of a volume is another one, or bytes stand behind it")
    return Volume(number, most, total, check, body)


def joined(volumes):
    """The bytes that were shared out in these volumes."""
    found = [volume_of(volume) for volume in volumes]
    check_together(found)
    told = []
    for body in whole_bodies(found):
        told.extend(body)
    if check_of(told) != found[0].check:
        raise NotTogether("the check of the bytes is another one")
    return tuple(told)


def check_together(found):
    """Refuses volumes that were not shared out together."""
    if not found:
        raise NotTogether("there are no volumes")
    bodies = {}
    for volume in found:
        if common_of(volume) != common_of(found[0]):
            raise NotTogether("two volumes tell of other bytes")
        if bodies.setdefault(volume.number, volume.body) != volume.body:
            raise NotTogether("two volumes of one number are not alike")


def common_of(volume):
    """What is alike in all volumes that were shared out together."""
    return volume.most, volume.total, volume.check


def whole_bodies(found):
    """All bodies in order but the spare one; if one lacks, it is made of the others."""
    bodies = {volume.number: volume.body for volume in found}
    most = found[0].most
    total = found[0].total
    many = many_bodies(most, total)
    lacking = [number for number in range(many) if number not in bodies]
    if len(lacking) > 1 or (lacking and many not in bodies):
        raise Missing(tuple(lacking))
    for number in lacking:
        made = odd_bits(list(bodies.values()), min(most, total))
        bodies[number] = made[:length_of_body(number, most, total)]
    return [bodies[number] for number in range(many)]
