"""Entries of packs: a file with its name, its check and its stream."""

from presshouse.errors import BadStream
from presshouse.kinds import MODULUS, are_bytes
from presshouse.least import MOST_BYTES
from presshouse.streams import opened, pressed

ENTRY = 69
STEP = 256
SMALL_LETTERS = "abcdefghijklmnopqrstuvwxyz"
LONGEST_NAME = 8

# A size in two bytes and a check in four stand between the name and the stream.
SIZE_BYTES = 2
HEAD_BYTES = 6


def is_name(told):
    """Whether this is a name of 1 to 8 small letters."""
    if not isinstance(told, str) or not 1 <= len(told) <= LONGEST_NAME:
        return False
    return all([sign in SMALL_LETTERS for sign in told])


def is_file(told):
    """Whether these are bytes of a file."""
    return are_bytes(told, MOST_BYTES)


def check_of(data):
    """The check of a file: the sum of its sums, then its sum."""
    total = 1
    totals = 0
    for byte in data:
        total += byte
        totals += total
    return number_written(int(totals) % MODULUS) + number_written(int(total) % MODULUS)


def number_written(number):
    """A number in two bytes."""
    return number.to_bytes(2, "big")


def entry_written(name, data, ahead):
    """The entry of a file behind the one that stands ahead."""
    stream = pressed(data, step=STEP, ahead=ahead)
    head = bytes([ENTRY, len(name)]) + name.encode("ascii")
    return head + number_written(len(stream)) + check_of(data) + stream


def entry_at(told, place, ahead):
    """The name and the file of the entry at a place, and the place behind it; None where none can be read."""
    name = name_at(told, place)
    if name is None:
        return None
    place += 2 + len(name)
    head = told[place:place + HEAD_BYTES]
    place += HEAD_BYTES
    size = int.from_bytes(head[:SIZE_BYTES], "big")
    stream = told[place:place + size]
    if len(stream) < size:
        return None
    data = read_file(stream, ahead)
    if data is None or check_of(data) != head[SIZE_BYTES:]:
        return None
    return name, data, place + size


def name_at(told, place):
    """The name of the entry that begins at a place, None where none begins."""
    head = told[place:place + 2]
    if len(head) < 2 or head[0] != ENTRY or not 1 <= head[1] <= LONGEST_NAME:
        return None
    letters = told[place + 2:place + 2 + head[1]]
    if len(letters) < head[1] or not all([97 <= letter <= 122 for letter in letters]):
        return None
    return letters.decode("ascii")


def read_file(stream, ahead):
    """The file that a stream tells behind another one, None where it tells none."""
    try:
        data = opened(stream, ahead=ahead)
    except BadStream:
        return None
    return data if is_file(data) else None
