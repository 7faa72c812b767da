"""Kinds of values, and bytes as texts of signs."""

from presshouse.errors import BadBytes, BadHex

SIGNS = "0123456789abcdef"

# Sums of bytes are told modulo this.
MODULUS = 65521


def is_whole(told):
    """Whether this is a whole number."""
    # Python takes True and False for 1 and 0; the document does not.
    return isinstance(told, int) and not isinstance(told, bool)


def is_number(told, least, most):
    """Whether this is a whole number from least to most."""
    return is_whole(told) and least <= told <= most


def are_numbers(told, least, most):
    """Whether this is a list of numbers, each from least to most."""
    return isinstance(told, list) and all([is_number(one, least, most) for one in told])


def are_bytes(told, most):
    """Whether these are bytes, and no more than so many."""
    return isinstance(told, bytes) and len(told) <= most


def copied(told):
    """The same, but with a new list for each list in it."""
    if isinstance(told, list):
        return [copied(one) for one in told]
    if isinstance(told, tuple):
        return tuple([copied(one) for one in told])
    return told


def of_hex(text):
    """The bytes that a text of signs tells, two for each byte."""
    # Python's own reading also takes blanks and capital letters, so the signs are looked at first.
    if not isinstance(text, str) or len(text) & 1 or not all([sign in SIGNS for sign in text]):
        raise BadHex("no text of an even count of signs of 0 to 9, a to f")
    return bytes.fromhex(text)


def hex_of(told):
    """The text of signs that tells these bytes."""
    if not isinstance(told, bytes):
        raise BadBytes("no bytes")
    return told.hex()
