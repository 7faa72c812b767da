"""What rows cost by prices, from each place up to one end, and the one that is told of several."""

from presshouse.prices import AHEAD_OF_COPIES, MOST_COPIED

# More bits than any row has: what can't be used costs so many.
FAR = 1000000000


class Fares:
    """What items cost by lengths of letters and of backs."""

    def __init__(self, letters, backs):
        self.letter_bits = [bits if bits > 0 else FAR for bits in letters]
        self.copy_bits = self.letter_bits[AHEAD_OF_COPIES:]
        self.worths = worths_of(backs)
        # The cheapest first, of equal ones those of the least backs.
        self.cheapest = sorted([(bits + letter, letter) for letter, bits in enumerate(backs) if bits > 0])

    def bits_of_copy(self, many, letters):
        """The fewest bits by which so many bytes are copied from a back of some letters."""
        return self.copy_bits[many] + self.worths[letters]

    def cheapest_of(self, letters):
        """The letter of backs that costs least of several, of equal ones the least."""
        return [letter for _, letter in self.cheapest if letters >> letter & 1][0]


class Road:
    """The least rows up to one end, from each place from start on."""

    def __init__(self, places, fares, start, end):
        self.places = places
        self.fares = fares
        self.end = end
        self.costs = costs_of(places, fares, start, end)
        self._taken = {}

    def taken_at(self, at):
        """The first of the items with the fewest bits: how many bytes, and the letter of its back (0 of a byte)."""
        # Rows from several places soon run together, so what was found is kept.
        if at not in self._taken:
            self._taken[at] = first_of(self.places, self.fares, self.costs, at)
        return self._taken[at]

    def steps_from(self, start):
        """The items of the row from a place on, as triples: their place, how many bytes, the letter of the back."""
        steps = []
        at = start
        while at < self.end:
            many, letter = self.taken_at(at)
            steps.append((at, many, letter))
            at += many
        return steps

    def row_from(self, start):
        """The row from a place on."""
        return [item_at(self.places, step) for step in self.steps_from(start)]

    def told_costs(self):
        """The fewest bits from each place on, None where it can't be."""
        return [bits if bits < FAR else None for bits in self.costs[:self.end + 1]]


def worths_of(backs):
    """The fewest bits by which a back of some letters is told, by the sums of 2 to each letter."""
    worths = [FAR]
    for letter, bits in enumerate(backs):
        worth = bits + letter if bits > 0 else FAR
        worths = worths + [worth if worth < other else other for other in worths]
    return worths


def costs_of(places, fares, start, end):
    """The fewest bits up to the end from each place on, from start on."""
    # As far as one copy goes behind the end, nothing can be.
    costs = [FAR] * end + [0] + [FAR] * MOST_COPIED
    copy_bits = fares.copy_bits
    worths = fares.worths
    for at in reversed(range(start, end)):
        best = min(FAR, fares.letter_bits[places.data[at]] + costs[at + 1])
        for many, letters in places.pairs[places.kinds[at]]:
            # Own words are words for few lengths of copies, so the others are left aside first of all.
            if copy_bits[many] < FAR:
                bits = copy_bits[many] + worths[letters] + costs[at + many]
                # Not by `min`: this is done so often that its call would take most of the time.
                if bits < best:
                    best = bits
        costs[at] = best
    return costs


def first_of(places, fares, costs, at):
    """The item that is told of those with the fewest bits, as a pair: a byte, else the longest copy."""
    if fares.letter_bits[places.data[at]] + costs[at + 1] == costs[at]:
        return 1, 0
    least = [(many, letters) for many, letters in places.pairs_at(at)
             if fares.bits_of_copy(many, letters) + costs[at + many] == costs[at]]
    many, letters = least[-1]
    return many, fares.cheapest_of(letters)


def item_at(places, step):
    """The item of a triple, a copy from the least back."""
    at, many, letter = step
    if many == 1:
        return places.data[at]
    return many, places.least_back(at, many, letter)
