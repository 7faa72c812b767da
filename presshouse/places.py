"""What can be copied at each place of bytes, and from how far back."""

from presshouse.prices import BACKS, FARTHEST, FEWEST_COPIED, MOST_COPIED

# By letters.
FARTHEST_BACKS = (1, 3, 7, 15, 31, 63, 127, 255, 511, 1023, 1024)


class Places:
    """The places of bytes that stand behind others, and what can be copied at each.

    That is a list of pairs, rising: how many bytes, and the letters of the backs from
    which so many can be copied, as the sum of 2 to each letter. Many places have the
    same list, so the lists stand in `pairs`, and `kinds` tells which one a place has;
    the first one is that of the places where nothing can be copied.
    """

    def __init__(self, data, ahead):
        self.data = data
        self.whole = ahead + data
        self.start = len(ahead)
        self.pairs = [[]]
        self.kinds = []
        self.look_at_all()

    def look_at_all(self):
        """Find what can be copied at each place."""
        reached = (0,) * BACKS
        known = {reached: 0}
        for place in range(self.start, len(self.whole)):
            reached = reached_at(self.whole, place, reached)
            if reached not in known:
                known[reached] = len(self.pairs)
                self.pairs.append(pairs_of(reached))
            self.kinds.append(known[reached])

    def pairs_at(self, at):
        """What can be copied at a place."""
        return self.pairs[self.kinds[at]]

    def least_back(self, at, many, letter):
        """The least back of a letter from which so many bytes can be copied at a place."""
        place = self.start + at
        low = max(0, place - FARTHEST_BACKS[letter])
        return place - self.whole.rfind(self.whole[place:place + many], low, place - (1 << letter) + many)


def reached_at(whole, place, ahead):
    """The most bytes that can be copied at a place, by letters of backs, from what could be at the place ahead."""
    first = whole[place:place + FEWEST_COPIED]
    # Most places of most bytes have nothing to copy, which one look tells.
    if whole.find(first, max(0, place - FARTHEST), place + FEWEST_COPIED - 1) < 0:
        return (0,) * BACKS
    most = min(MOST_COPIED, len(whole) - place)
    # From the same back all but the first byte can be copied at the next place, too.
    return tuple([reached_by(whole, place, letter, known - 1, most) for letter, known in enumerate(ahead)])


def reached_by(whole, place, letter, known, most):
    """The most bytes that can be copied by the backs of a letter, so many of them being known; 0 where too few."""
    many = max(known, FEWEST_COPIED - 1)
    low = max(0, place - FARTHEST_BACKS[letter])
    # Behind the last place to copy from, where there is one.
    high = place - (1 << letter) + 1
    while high > low and many < most:
        # Where fewer were not found, more are not, either.
        low = whole.find(whole[place:place + many + 1], low, high + many)
        if low < 0:
            break
        many += 1
    return many if many >= FEWEST_COPIED else 0


def pairs_of(reached):
    """The pairs of a place by how far the letters of backs reach there."""
    longest = max(reached)
    # By how many bytes: the letters that reach just so far.
    ending = [0] * (longest + 1)
    for letter, many in enumerate(reached):
        ending[many] += 1 << letter
    pairs = []
    letters = 0
    for many in reversed(range(FEWEST_COPIED, longest + 1)):
        letters += ending[many]
        pairs.append((many, letters))
    return pairs[::-1]
