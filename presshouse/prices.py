"""Prices: how long the words of letters and of backs are."""

from presshouse.errors import BadPrices
from presshouse.kinds import are_numbers
from presshouse.words import LONGEST, are_good

# Letters: the bytes, the end 256, then copies by how many bytes they copy.
LETTERS = 273
END = 256
AHEAD_OF_COPIES = 254
FEWEST_COPIED = 3
MOST_COPIED = 18

BACKS = 11
FARTHEST = 1024

TOLD_LETTERS = ((8, 239), (9, 34))
TOLD_BACKS = ((4, 6), (3, 5))


class Prices:
    """Lengths of the words of 273 letters and of 11 backs."""

    def __init__(self, letters, backs):
        if not are_prices(letters, LETTERS) or not are_prices(backs, BACKS):
            raise BadPrices("no good lengths of 273 letters, or of 11 backs")
        self._letters = list(letters)
        self._backs = list(backs)

    def letters(self):
        """The lengths by letters."""
        return list(self._letters)

    def backs(self):
        """The lengths by backs."""
        return list(self._backs)

    def __eq__(self, other):
        return isinstance(other, Prices) and self._letters == other._letters and self._backs == other._backs


def are_prices(lengths, many):
    """Whether this is a list of just so many good lengths."""
    return are_numbers(lengths, 0, LONGEST) and len(lengths) == many and are_good(lengths)


def told_prices():
    """The prices that are the same for all bytes."""
    return Prices(drawn_out(TOLD_LETTERS), drawn_out(TOLD_BACKS))


def drawn_out(runs):
    """The list of lengths that runs of a length and how often it stands tell."""
    lengths = []
    for length, many in runs:
        lengths.extend([length] * many)
    return lengths


def back_of(back):
    """The letter by which a back is told."""
    return back.bit_length() - 1
