"""How far copies reach at each place of new bytes, and the row of the fewest bits that they give."""

from presshouse.changes import BYTE_BITS, FEWEST_NEW, FEWEST_OLD, MOST_AT_ONCE, NEW, NEW_BITS, OLD, OLD_BITS


class Reaches:
    """The longest copies of new bytes and of old ones, at each place of the new."""

    def __init__(self, old, new):
        self.old = old
        self.new = new
        self.many_new = longest_new(new)
        self.many_old = longest_old(old, new)

    def copies_at(self, at):
        """The longest copies at a place, as triples: how many bytes, whether of the new, how many bits."""
        copies = []
        if self.many_new[at] >= FEWEST_NEW:
            copies.append((self.many_new[at], True, NEW_BITS))
        if self.many_old[at] >= FEWEST_OLD:
            copies.append((self.many_old[at], False, OLD_BITS))
        return copies

    def copy_at(self, at, many, is_new):
        """The item that copies so many bytes, from the least back or place."""
        wanted = self.new[at:at + many]
        if is_new:
            return NEW, many, at - self.new.rfind(wanted, 0, at + many - 1)
        return OLD, many, self.old.find(wanted)


def longest_new(new):
    """For each place the most bytes that can be copied there from the new ones ahead."""
    found = []
    many = 0
    for at in range(len(new)):
        # From the same back all but the first byte can be copied at the next place, too.
        many = max(0, many - 1)
        while many < most_at(new, at) and new.find(new[at:at + many + 1], 0, at + many) >= 0:
            many += 1
        found.append(many)
    return found


def longest_old(old, new):
    """For each place of the new the most bytes that can be copied there from the old."""
    found = []
    many = 0
    for at in range(len(new)):
        many = max(0, many - 1)
        while many < most_at(new, at) and old.find(new[at:at + many + 1]) >= 0:
            many += 1
        found.append(many)
    return found


def most_at(new, at):
    """The most bytes that one copy can make at a place."""
    return min(MOST_AT_ONCE, len(new) - at)


def costs_of(reaches):
    """The fewest bits from each place on."""
    costs = [0] * (len(reaches.new) + 1)
    for at in reversed(range(len(reaches.new))):
        # The fewer bytes are left the less they cost, so of each sort the longest copy is enough.
        found = [bits + costs[at + many] for many, _, bits in reaches.copies_at(at)]
        costs[at] = min([BYTE_BITS + costs[at + 1]] + found)
    return costs


def least_row(reaches, costs):
    """The row that is told of those with the fewest bits."""
    row = []
    at = 0
    while at < len(reaches.new):
        if BYTE_BITS + costs[at + 1] == costs[at]:
            row.append(reaches.new[at])
            at += 1
            continue
        # A shorter copy that is as good never comes ahead; of one length the new is ahead of the old.
        many, is_new = max([(many, is_new) for many, is_new, bits in reaches.copies_at(at)
                            if bits + costs[at + many] == costs[at]])
        row.append(reaches.copy_at(at, many, is_new))
        at += many
    return row


def none_is_cheaper(reaches, costs):
    """Whether no item leads from its place for fewer bits than any such costs say."""
    # A byte can stand at each place, so none is without a cost.
    if None in costs:
        return False
    for at in range(len(reaches.new)):
        found = [BYTE_BITS + costs[at + 1]]
        if reaches.many_new[at] >= FEWEST_NEW:
            found.append(NEW_BITS + min(costs[at + FEWEST_NEW:at + reaches.many_new[at] + 1]))
        if reaches.many_old[at] >= FEWEST_OLD:
            found.append(OLD_BITS + min(costs[at + FEWEST_OLD:at + reaches.many_old[at] + 1]))
        if min(found) < costs[at]:
            return False
    return True
