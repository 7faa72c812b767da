"""Rows that make new bytes of old ones: what is one, where each byte comes from, how far copies reach."""

from presshouse.kinds import MODULUS, is_number
from presshouse.least import MOST_BYTES

NEW = "new"
OLD = "old"

BYTE_BITS = 9
NEW_BITS = 20
OLD_BITS = 24

FEWEST_NEW = 3
FEWEST_OLD = 1
MOST_AT_ONCE = 255


def mark_of(data):
    """The mark of bytes: how many, and the sum of each times one more than its count."""
    return len(data), sum([(at + 1) * byte for at, byte in enumerate(data)]) % MODULUS


def is_mark(told):
    """Whether this can be a mark."""
    if not isinstance(told, tuple) or len(told) != 2:
        return False
    return is_number(told[0], 0, MOST_BYTES) and is_number(told[1], 0, MODULUS - 1)


def is_difference(told):
    """Whether this is a difference by itself, whatever bytes it is for."""
    if not isinstance(told, tuple) or len(told) != 3:
        return False
    old, new, row = told
    return is_mark(old) and is_mark(new) and isinstance(row, list) and tells_as_many(row, old[0], new[0])


def tells_as_many(row, old_many, new_many):
    """Whether items that can all stand there tell just so many new bytes of so many old ones."""
    there = 0
    for item in row:
        many = many_of(item, old_many, there)
        if many == 0:
            return False
        there += many
    return there == new_many


def many_of(item, old_many, there):
    """How many bytes an item tells behind those that are there; 0 where it can't stand."""
    if not isinstance(item, tuple):
        return 1 if is_number(item, 0, 255) else 0
    if len(item) != 3:
        return 0
    word, many, place = item
    if word == NEW and is_number(many, FEWEST_NEW, MOST_AT_ONCE) and is_number(place, 1, min(MOST_BYTES, there)):
        return many
    if word == OLD and is_number(many, FEWEST_OLD, MOST_AT_ONCE) and is_number(place, 0, old_many - many):
        return many
    return 0


def row_bits(row):
    """How many bits a row has."""
    bits = 0
    for item in row:
        if not isinstance(item, tuple):
            bits += BYTE_BITS
        else:
            bits += NEW_BITS if item[0] == NEW else OLD_BITS
    return bits


def origins_of(row):
    """Where each new byte comes from: a byte, or a place of the old, alone in a tuple."""
    origins = []
    for item in row:
        if not isinstance(item, tuple):
            origins.append(item)
            continue
        word, many, place = item
        for count in range(many):
            # One by one, as a copy of the new may copy its own.
            origins.append(origins[-place] if word == NEW else (place + count,))
    return origins


def row_from(origins):
    """The flat row of bytes that come from there."""
    row = []
    for origin in origins:
        if not isinstance(origin, tuple):
            row.append(origin)
        elif row and goes_on(row[-1], origin[0]):
            _, many, place = row[-1]
            row[-1] = (OLD, many + 1, place)
        else:
            row.append((OLD, 1, origin[0]))
    return row


def goes_on(item, place):
    """Whether a copy of the old has room for one more byte, from that place."""
    return isinstance(item, tuple) and item[1] < MOST_AT_ONCE and item[2] + item[1] == place


def put_together(origins, old):
    """The new bytes that come from there, and from these old ones."""
    return bytes([old[origin[0]] if isinstance(origin, tuple) else origin for origin in origins])
