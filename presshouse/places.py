"""What can stand at each place of bytes, for how many bits, and the least ways from there."""

from presshouse.prices import AHEAD_OF_COPIES, BACKS, FARTHEST, FEWEST_COPIED, MOST_COPIED


class Places:
    """The places of bytes that stand behind others: what can be copied at each."""

    def __init__(self, data, ahead):
        self.whole = ahead + data
        self.start = len(ahead)
        self.reached = reaches(self.whole, len(ahead))

    def byte_at(self, at):
        """The byte that stands at a place."""
        return self.whole[self.start + at]

    def least_back(self, at, many, letter):
        """The least back of a letter from which so many bytes can be copied at a place."""
        place = self.start + at
        wanted = self.whole[place:place + many]
        back = 1 << letter
        while self.whole[place - back:place - back + many] != wanted:
            back += 1
        return back


class Fares:
    """What items cost by prices."""

    def __init__(self, prices):
        self.lengths = prices.letters()
        # The cheapest first, of equal ones those of the least backs.
        self.cheapest = sorted([(bits + letter, letter) for letter, bits in enumerate(prices.backs()) if bits > 0])


def reaches(whole, start):
    """For each place from start on the most bytes to copy there, by letters of backs.

    The list of a place where nothing can be copied is empty.
    """
    found = []
    # By backs from 1 on: how many bytes from here on are as those so far back.
    runs = [0] * FARTHEST
    for place in reversed(range(start, len(whole))):
        byte = whole[place]
        behind = whole[max(0, place - FARTHEST):place]
        runs = [run + 1 if other == byte else 0 for run, other in zip(runs, behind[::-1])]
        found.append(by_letters(runs) if max(runs, default=0) >= FEWEST_COPIED else [])
    return found[::-1]


def by_letters(runs):
    """The longest run among the backs of each letter, as far as one copy goes."""
    longest = [max(runs[(1 << letter) - 1:(2 << letter) - 1], default=0) for letter in range(BACKS)]
    return [min(run, MOST_COPIED) for run in longest]


def steps_at(places, fares, at, end):
    """What can be used at a place: pairs, how many bytes, rising, and the fewest bits for them."""
    steps = []
    bits = fares.lengths[places.byte_at(at)]
    if bits > 0:
        steps.append((1, bits))
    reached = places.reached[at]
    if not reached:
        return steps
    far = FEWEST_COPIED
    for worth, letter in fares.cheapest:
        # What a cheaper letter of backs reaches is not looked at again.
        for many in range(far, min(reached[letter], end - at) + 1):
            bits = fares.lengths[AHEAD_OF_COPIES + many]
            if bits > 0:
                steps.append((many, bits + worth))
            far = many + 1
    return steps


def fewest(steps, costs, at):
    """The fewest bits from a place on by steps and the costs behind it, None where it can't be."""
    found = [bits + costs[at + many] for many, bits in steps if costs[at + many] is not None]
    return min(found) if found else None


def costs_of(places, fares, start, end):
    """The fewest bits up to the end from each place on, from start on; ahead of it there is None."""
    costs = [None] * end + [0]
    for at in reversed(range(start, end)):
        costs[at] = fewest(steps_at(places, fares, at, end), costs, at)
    return costs


def row_of(places, fares, costs, start, end):
    """The row with the fewest bits that is told of several."""
    row = []
    at = start
    while at < end:
        many = step_taken(steps_at(places, fares, at, end), costs, at)
        row.append(item_at(places, fares, at, many))
        at += many
    return row


def step_taken(steps, costs, at):
    """How many bytes the item tells that is first of those with the fewest bits."""
    first = [many for many, bits in steps if costs[at + many] is not None and bits + costs[at + many] == costs[at]]
    # They rise: a byte is ahead of all, else the longest copy.
    return 1 if first[0] == 1 else first[-1]


def item_at(places, fares, at, many):
    """The byte at a place, or the cheapest copy of so many bytes, from the least back."""
    if many == 1:
        return places.byte_at(at)
    reached = places.reached[at]
    letters = [letter for _, letter in fares.cheapest if reached[letter] >= many]
    return many, places.least_back(at, many, letters[0])
