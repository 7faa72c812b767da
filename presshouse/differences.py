"""Differences that lead from old bytes to new ones, with the fewest bits, flat and joined."""

from presshouse.changes import is_difference, mark_of, origins_of, put_together, row_bits, row_from
from presshouse.errors import BadBytes, BadDifference, BadItems
from presshouse.kinds import are_bytes
from presshouse.least import MOST_BYTES, are_costs
from presshouse.reaches import Reaches, costs_of, least_row, none_is_cheaper


def difference(old, new):
    """The difference with the fewest bits, and the fewest bits from each place on."""
    refuse_bytes(old)
    refuse_bytes(new)
    reaches = Reaches(old, new)
    costs = costs_of(reaches)
    return (mark_of(old), mark_of(new), least_row(reaches, costs)), costs


def shown(old, new, difference, costs):
    """Whether costs show that a difference is one with the fewest bits for these bytes."""
    refuse_bytes(old)
    refuse_bytes(new)
    refuse_difference(difference)
    if not isinstance(costs, list):
        raise BadItems(None)
    row = difference[2]
    if difference[:2] != (mark_of(old), mark_of(new)) or put_together(origins_of(row), old) != new:
        return False
    if not are_costs(costs, new) or row_bits(row) != costs[0]:
        return False
    return none_is_cheaper(Reaches(old, new), costs)


def put_on(old, difference):
    """The new bytes that a difference makes of old ones."""
    refuse_bytes(old)
    refuse_difference(difference)
    if mark_of(old) != difference[0]:
        raise BadDifference("other bytes than those of the first mark")
    new = put_together(origins_of(difference[2]), old)
    if mark_of(new) != difference[1]:
        raise BadDifference("it makes other bytes than those of the second mark")
    return new


def flat(difference):
    """The same difference with copies of the old alone."""
    refuse_difference(difference)
    old_mark, new_mark, row = difference
    return old_mark, new_mark, row_from(origins_of(row))


def joined(first, second):
    """The flat difference from the first one's old bytes to the second one's new ones."""
    refuse_difference(first)
    refuse_difference(second)
    if first[1] != second[0]:
        raise BadDifference("the second one is for other bytes than the first one makes")
    between = origins_of(first[2])
    origins = [between[one[0]] if isinstance(one, tuple) else one for one in origins_of(second[2])]
    return first[0], second[1], row_from(origins)


def refuse_bytes(told):
    """Refuse what are no bytes of at most 2000."""
    if not are_bytes(told, MOST_BYTES):
        raise BadBytes("no bytes of at most 2000")


def refuse_difference(told):
    """Refuse what is no difference by itself."""
    if not is_difference(told):
        raise BadDifference("no difference")
