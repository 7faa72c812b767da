"""The cutting of bytes into blocks with the fewest bits."""

from presshouse.blocks import Blocks
from presshouse.least import MOST_BYTES
from presshouse.places import Places

# Ahead of each block a bit tells whether it is the last one.
LAST_BITS = 1


class Cutting:
    """The least cutting into blocks at places that a step divides, and the fewest bits from each of these."""

    def __init__(self, data, ahead, step):
        self.many = len(data)
        self.step = step
        self.places = Places(data, ahead)
        self._blocks = {}
        self._costs = {}
        self._ends = {}
        for start in reversed(self.starts()):
            self.cut_from(start)

    def starts(self):
        """The places at which blocks can begin."""
        return list(range(0, self.many, self.step)) or [0]

    def ends_from(self, start):
        """The places at which a block from a place on can end."""
        ends = list(range(start + self.step, self.many, self.step)) + [self.many]
        return [end for end in ends if end - start <= MOST_BYTES]

    def blocks_to(self, end):
        """The blocks that end at a place."""
        if end not in self._blocks:
            self._blocks[end] = Blocks(self.places, max(0, end - MOST_BYTES), end)
        return self._blocks[end]

    def cut_from(self, start):
        """Find the block from a place on, as all behind its ends is known."""
        found = []
        for end in self.ends_from(start):
            bits = min(self.blocks_to(end).ways_from(start))
            found.append((LAST_BITS + bits + self._costs.get(end, 0), -end))
        # Of equal ones the longest block is taken.
        self._costs[start], end = min(found)
        self._ends[start] = -end

    def told_costs(self):
        """The fewest bits from each place on that the step divides."""
        return [self._costs[start] for start in self.starts()]

    def told_ends(self):
        """The ends of the blocks."""
        ends = [self._ends[0]]
        while ends[-1] < self.many:
            ends.append(self._ends[ends[-1]])
        return ends

    def written(self):
        """The bits of all blocks, each behind the bit that tells whether it is the last one."""
        parts = []
        start = 0
        for end in self.told_ends():
            _, bits = self.blocks_to(end).block_from(start)
            parts.append(("1" if end == self.many else "0") + bits)
            start = end
        return "".join(parts)
