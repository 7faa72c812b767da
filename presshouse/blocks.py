"""Blocks of bytes, each written in the least of three ways."""

from presshouse.errors import BadBytes
from presshouse.kinds import are_bytes
from presshouse.least import MOST_BYTES
from presshouse.places import Places
from presshouse.prices import AHEAD_OF_COPIES, BACKS, END, LETTERS, back_of, told_prices
from presshouse.roads import Fares, Road
from presshouse.rows import MOST_AHEAD
from presshouse.words import LONGEST, least_lengths, words

PLAIN = 0
TOLD_WORDS = 1
OWN_WORDS = 2

SORT_BITS = 2
PLAIN_BITS = 11
LENGTH_BITS = 4
RUN_BITS = 5
LONGEST_RUN = 32
LONGEST_BACK = 6


class Blocks:
    """The blocks of bytes that stand behind others, which all end at one place."""

    def __init__(self, places, start, end):
        prices = told_prices()
        self.places = places
        self.end = end
        self.told = (prices.letters(), prices.backs())
        self.road = Road(places, Fares(prices.letters(), prices.backs()), start, end)

    def own_from(self, start):
        """The least lengths of letters and of backs for the row of told words from a place on."""
        letters = [0] * LETTERS
        backs = [0] * BACKS
        letters[END] = 1
        for at, many, letter in self.road.steps_from(start):
            if many == 1:
                letters[self.places.data[at]] += 1
            else:
                letters[AHEAD_OF_COPIES + many] += 1
                backs[letter] += 1
        own = least_lengths(letters, LONGEST)
        return own, least_lengths(backs, LONGEST_BACK) if sum(backs) > 0 else backs

    def own_road(self, start, own):
        """The least rows by own words from a place on."""
        letters, backs = own
        return Road(self.places, Fares(letters, backs), start, self.end)

    def ways_from(self, start):
        """How many bits each way has for the block from a place on."""
        letters, backs = self.own_from(start)
        runs = runs_of(letters + backs)
        row_bits = self.own_road(start, (letters, backs)).costs[start]
        return (
            SORT_BITS + PLAIN_BITS + 8 * (self.end - start),
            SORT_BITS + self.road.costs[start] + self.told[0][END],
            SORT_BITS + (LENGTH_BITS + RUN_BITS) * len(runs) + row_bits + letters[END],
        )

    def block_from(self, start):
        """The sort and the bits of the block from a place on."""
        sizes = self.ways_from(start)
        sort = sizes.index(min(sizes))
        return sort, f"{sort:02b}" + self.written(start, sort)

    def written(self, start, sort):
        """The bits of one way behind its sort."""
        if sort == PLAIN:
            return f"{self.end - start:011b}" + "".join([f"{byte:08b}" for byte in self.places.data[start:self.end]])
        if sort == TOLD_WORDS:
            return row_written(self.road.row_from(start), self.told)
        own = self.own_from(start)
        letters, backs = own
        return runs_written(letters + backs) + row_written(self.own_road(start, own).row_from(start), own)


def ways(data, *, ahead=b""):
    """How many bits each of the three ways has for bytes as one block."""
    return one_block(data, ahead).ways_from(0)


def block(data, *, ahead=b""):
    """The sort of the least way for bytes as one block, and all its bits."""
    return one_block(data, ahead).block_from(0)


def one_block(data, ahead):
    """All of these bytes, as blocks."""
    if not are_bytes(data, MOST_BYTES) or not are_bytes(ahead, MOST_AHEAD):
        raise BadBytes("no bytes of at most 2000, or none of at most 4096 ahead")
    return Blocks(Places(data, ahead), 0, len(data))


def runs_of(numbers):
    """Pairs of a number and how often it stands there on end, each as long as it can be."""
    runs = []
    for number in numbers:
        if runs and runs[-1][0] == number and runs[-1][1] < LONGEST_RUN:
            runs[-1] = (number, runs[-1][1] + 1)
        else:
            runs.append((number, 1))
    return runs


def runs_written(numbers):
    """The bits that tell numbers by their runs."""
    return "".join([f"{number:04b}{many - 1:05b}" for number, many in runs_of(numbers)])


def row_written(row, lengths):
    """The bits that tell a row and its end by words of these lengths of letters and of backs."""
    letters, backs = lengths
    letter_words = words(letters)
    back_words = words(backs)
    return "".join([item_written(item, letter_words, back_words) for item in row]) + letter_words[END]


def item_written(item, letter_words, back_words):
    """The bits that tell a byte or a copy."""
    if not isinstance(item, tuple):
        return letter_words[item]
    many, back = item
    back_bits = f"{back:b}"
    # The letter of a back tells its highest bit, so the others are all that is left to tell.
    return letter_words[AHEAD_OF_COPIES + many] + back_words[back_of(back)] + back_bits[1:]
