"""Streams read bit by bit, as far as bits were heard; each slip is told at its bit."""

from presshouse.blocks import LENGTH_BITS, OWN_WORDS, PLAIN, PLAIN_BITS, RUN_BITS, SORT_BITS, TOLD_WORDS
from presshouse.cuttings import LAST_BITS
from presshouse.errors import BadStream
from presshouse.heard import Heard, Tree, Wanting
from presshouse.least import MOST_BYTES
from presshouse.prices import AHEAD_OF_COPIES, BACKS, END, FARTHEST, LETTERS, told_prices
from presshouse.rows import copy_behind
from presshouse.words import LONGEST, are_good

# What the next bits tell.
NEXT_BLOCK = 0
NEXT_COUNT = 1
NEXT_PLAIN = 2
NEXT_RUN = 3
NEXT_ITEM = 4
NEXT_REST = 5


class Reading:
    """A stream as far as it was heard: what it tells, whether it is over, where it slipped."""

    def __init__(self, ahead):
        self._heard = Heard()
        self._ahead = len(ahead)
        self._whole = list(ahead)
        self._next = NEXT_BLOCK
        self._is_last = False
        # How many bytes the block can still have.
        self._left = 0
        self._lengths = []
        self._letters = None
        self._backs = None
        self._told = None
        self._over = False
        self._slip = None

    def hear_piece(self, piece):
        """Read as far as the bits go with one more piece."""
        if self._slip is None:
            self._heard.hear_bytes(piece)
            self.go_on()
        if self._slip is not None:
            raise BadStream(self._slip)

    def told_bytes(self):
        """The bytes that are known."""
        return bytes(self._whole[self._ahead:])

    def many_bytes(self):
        """How many bytes are known."""
        return len(self._whole) - self._ahead

    def was_over(self):
        """Whether the whole byte of the last block was heard, whatever came behind."""
        return self._over

    def many_bits(self):
        """How many bits were heard, ahead of the slip if there was one."""
        return self._heard.many_bits() if self._slip is None else self._slip

    def go_on(self):
        """Read step by step, up to a slip or to the step whose bits aren't all heard."""
        begun = self._heard.many_read()
        try:
            while True:
                self.read_next()
                begun = self._heard.many_read()
        except Wanting:
            self._heard.go_back(begun)
        except BadStream as slip:
            self._slip = slip.bit

    def read_next(self):
        """Read what comes next; nothing is kept of it as long as not all its bits were heard."""
        if self._next == NEXT_ITEM:
            self.read_item()
        elif self._next == NEXT_PLAIN:
            self.read_plain()
        elif self._next == NEXT_RUN:
            self.read_run()
        elif self._next == NEXT_BLOCK:
            self.read_block()
        elif self._next == NEXT_COUNT:
            self.read_count()
        else:
            self.read_rest()

    def read_block(self):
        """Read whether a block is the last one, and its sort."""
        is_last = self._heard.number(LAST_BITS) == 1
        sort = self._heard.number(SORT_BITS)
        if sort > OWN_WORDS:
            self._heard.slip()
        self._is_last = is_last
        self._left = MOST_BYTES
        if sort == PLAIN:
            self._next = NEXT_COUNT
        elif sort == TOLD_WORDS:
            self._letters, self._backs = self.told_trees()
            self._next = NEXT_ITEM
        else:
            self._lengths = []
            self._next = NEXT_RUN

    def read_count(self):
        """Read how many bytes a plain block has."""
        count = self._heard.number(PLAIN_BITS)
        if count > MOST_BYTES:
            self._heard.slip()
        self._left = count
        self._next = NEXT_PLAIN

    def read_plain(self):
        """Read one byte of a plain block, or go on behind it."""
        if self._left == 0:
            self.end_block()
        else:
            self._whole.append(self._heard.number(8))
            self._left -= 1

    def read_run(self):
        """Read one run of the lengths of own words."""
        length = self._heard.number(LENGTH_BITS)
        if length > LONGEST:
            self._heard.slip()
        many = self._heard.number(RUN_BITS) + 1
        lengths = self._lengths + [length] * many
        if len(lengths) > LETTERS + BACKS:
            self._heard.slip()
        self._lengths = lengths
        if len(lengths) == LETTERS + BACKS:
            self.take_lengths(lengths[:LETTERS], lengths[LETTERS:])

    def take_lengths(self, letters, backs):
        """Have the items that come next told by own words of these lengths."""
        if not are_good(letters) or not are_good(backs) or letters[END] == 0:
            self._heard.slip()
        self._letters = Tree(letters)
        self._backs = Tree(backs)
        self._next = NEXT_ITEM

    def told_trees(self):
        """The told words of letters and of backs."""
        # A stream can have thousands of blocks by told words, so these are made but once.
        if self._told is None:
            prices = told_prices()
            self._told = (Tree(prices.letters()), Tree(prices.backs()))
        return self._told

    def read_item(self):
        """Read one item, or the end of a block."""
        letter = self._heard.letter(self._letters)
        if letter == END:
            self.end_block()
        elif letter < END:
            self.take_room(1)
            self._whole.append(letter)
        else:
            many = letter - AHEAD_OF_COPIES
            back_letter = self._heard.letter(self._backs)
            back = (1 << back_letter) + self._heard.number(back_letter)
            if back > FARTHEST or back > len(self._whole):
                self._heard.slip()
            self.take_room(many)
            copy_behind(self._whole, (many, back))

    def take_room(self, many):
        """Count the bytes of an item; slip where the block has too many."""
        if many > self._left:
            self._heard.slip()
        self._left -= many

    def end_block(self):
        """Go on behind a block."""
        self._next = NEXT_REST if self._is_last else NEXT_BLOCK

    def read_rest(self):
        """Read a bit behind the last block: noughts up to a whole byte, then none."""
        if self._heard.many_read() & 7 == 0:
            self._over = True
        bit = self._heard.number(1)
        if bit == 1 or self._over:
            self._heard.slip()
