"""The row with the fewest bits that tells bytes, shown by the costs from each place."""

from presshouse.errors import BadBytes, BadItems, BadPrices
from presshouse.kinds import are_bytes, copied, is_whole
from presshouse.places import Places
from presshouse.prices import Prices
from presshouse.roads import FAR, Fares, Road
from presshouse.rows import MOST_AHEAD, bits_of, bytes_behind

MOST_BYTES = 2000


class Least:
    """A row with the fewest bits, and the fewest bits from each place."""

    def __init__(self, row, costs):
        self.row = copied(row)
        self.costs = copied(costs)

    def shows(self, data, prices, *, ahead=b""):
        """Whether the costs show that the row is one with the fewest bits for these bytes."""
        if not are_costs(self.costs, data) or self.costs[0] is None or not tells(self.row, data, ahead):
            return False
        return bits_of(self.row, prices) == self.costs[0] and none_is_cheaper(self.costs, data, prices, ahead)


class Never:
    """Costs from each place, as no row tells the bytes."""

    def __init__(self, costs):
        self.costs = copied(costs)

    def shows(self, data, prices, *, ahead=b""):
        """Whether the costs show that no row tells these bytes."""
        if not are_costs(self.costs, data) or self.costs[0] is not None:
            return False
        return none_is_cheaper(self.costs, data, prices, ahead)


def least(data, prices, *, ahead=b""):
    """The row with the fewest bits for these bytes, or what shows that there is none."""
    if not are_bytes(data, MOST_BYTES) or not are_bytes(ahead, MOST_AHEAD):
        raise BadBytes("no bytes of at most 2000, or none of at most 4096 ahead")
    if not isinstance(prices, Prices):
        raise BadPrices("no prices")
    road = Road(Places(data, ahead), Fares(prices.letters(), prices.backs()), 0, len(data))
    costs = road.told_costs()
    if costs[0] is None:
        return Never(costs)
    return Least(road.row_from(0), costs)


def are_costs(costs, data):
    """Whether these are numbers from 0 on or None, one for each place, and 0 for the end."""
    if not isinstance(costs, list) or len(costs) != len(data) + 1:
        return False
    return all([one is None or (is_whole(one) and one >= 0) for one in costs]) and costs[-1] == 0


def tells(row, data, ahead):
    """Whether this is a row that tells just these bytes."""
    try:
        return bytes_behind(row, ahead) == data
    except BadItems:
        return False


def none_is_cheaper(costs, data, prices, ahead):
    """Whether no item leads from its place for fewer bits than the costs say."""
    places = Places(data, ahead)
    fares = Fares(prices.letters(), prices.backs())
    for at in range(len(data)):
        found = [bits + costs[at + many] for many, bits in steps_at(places, fares, at) if costs[at + many] is not None]
        if found and (costs[at] is None or min(found) < costs[at]):
            return False
    return True


def steps_at(places, fares, at):
    """What can be used at a place: pairs, how many bytes, and the fewest bits for them."""
    steps = [(1, fares.letter_bits[places.data[at]])]
    steps.extend([(many, fares.bits_of_copy(many, letters)) for many, letters in places.pairs_at(at)])
    return [(many, bits) for many, bits in steps if bits < FAR]
