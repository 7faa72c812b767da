"""Bytes cut into blocks and pressed, and streams opened, whole or in pieces."""

from presshouse.cuttings import Cutting
from presshouse.errors import BadBytes, BadStep, BadStream
from presshouse.kinds import are_bytes, is_number
from presshouse.least import MOST_BYTES
from presshouse.reading import Reading
from presshouse.rows import MOST_AHEAD

MOST_PRESSED = 4000
LEAST_STEP = 16
MOST_STEPS = 32
PIECE_BYTES = 64


def cut(data, step, *, ahead=b""):
    """The ends of the blocks of the least cutting, and the fewest bits from each place that the step divides."""
    cutting = cutting_of(data, ahead, step)
    return cutting.told_ends(), cutting.told_costs()


def pressed(data, *, step=256, ahead=b""):
    """The stream of these bytes."""
    bits = cutting_of(data, ahead, step).written()
    bits = bits + "0" * (-len(bits) & 7)
    return bytes([int(bits[at:at + 8], 2) for at in range(0, len(bits), 8)])


def opened(stream, *, ahead=b""):
    """The bytes that a whole stream tells."""
    if not isinstance(stream, bytes) or not are_bytes(ahead, MOST_AHEAD):
        raise BadBytes("no bytes, or none of at most 4096 ahead")
    reading = Reading(ahead)
    # Piece by piece, as one that slips early need not be looked at up to its end.
    for at in range(0, len(stream), PIECE_BYTES):
        reading.hear_piece(stream[at:at + PIECE_BYTES])
    if not reading.was_over():
        raise BadStream(reading.many_bits())
    return reading.told_bytes()


class Reader:
    """Hears a stream in pieces, and tells what came to be known."""

    def __init__(self, *, ahead=b""):
        if not are_bytes(ahead, MOST_AHEAD):
            raise BadBytes("no bytes of at most 4096 ahead")
        self._reading = Reading(ahead)

    def hear(self, told):
        """Hear one more piece: how many bytes came to be known by it."""
        if not isinstance(told, bytes):
            raise BadBytes("no bytes")
        many = self._reading.many_bytes()
        self._reading.hear_piece(told)
        return self._reading.many_bytes() - many

    def known(self):
        """All bytes that came to be known."""
        return self._reading.told_bytes()

    def is_over(self):
        """Whether the last block's byte was heard."""
        return self._reading.was_over()

    def bits(self):
        """How many bits were heard, or stand ahead of the one at which the stream slipped."""
        return self._reading.many_bits()


def cutting_of(data, ahead, step):
    """The least cutting, of bytes and a step that are so."""
    if not are_bytes(data, MOST_PRESSED) or not are_bytes(ahead, MOST_AHEAD):
        raise BadBytes("no bytes of at most 4000, or none of at most 4096 ahead")
    if not is_number(step, LEAST_STEP, MOST_BYTES) or len(data) > MOST_STEPS * step:
        raise BadStep("no step from 16 to 2000 by which 32 blocks are enough")
    return Cutting(data, ahead, step)
