"""Rows of bytes and copies: the bytes that they tell, and what they cost."""

from presshouse.errors import BadBytes, BadItems, BadPrices
from presshouse.kinds import are_bytes, is_number
from presshouse.prices import AHEAD_OF_COPIES, FARTHEST, FEWEST_COPIED, MOST_COPIED, Prices, back_of

MOST_AHEAD = 4096


def told(items, *, ahead=b""):
    """The bytes that a row tells behind those that stand ahead."""
    if not are_bytes(ahead, MOST_AHEAD):
        raise BadBytes("no bytes ahead, or more than 4096")
    return bytes_behind(items, ahead)


def bits_of(items, prices):
    """How many bits a row costs, None if one of its items can't be used."""
    if not isinstance(prices, Prices):
        raise BadPrices("no prices")
    if not isinstance(items, list):
        raise BadItems(None)
    for at, item in enumerate(items):
        if not is_item(item):
            raise BadItems(at)
    letters = prices.letters()
    backs = prices.backs()
    costs = [item_bits(item, letters, backs) for item in items]
    return None if None in costs else sum(costs)


def is_item(item):
    """Whether this is a byte or a copy, from wherever."""
    if not isinstance(item, tuple):
        return is_number(item, 0, 255)
    if len(item) != 2:
        return False
    many, back = item
    return is_number(many, FEWEST_COPIED, MOST_COPIED) and is_number(back, 1, FARTHEST)


def bytes_behind(items, ahead):
    """The bytes that a row tells, however many stand ahead."""
    if not isinstance(items, list):
        raise BadItems(None)
    whole = list(ahead)
    for at, item in enumerate(items):
        if not is_item(item):
            raise BadItems(at)
        if not isinstance(item, tuple):
            whole.append(item)
        elif item[1] > len(whole):
            raise BadItems(at)
        else:
            copy_behind(whole, item)
    return bytes(whole[len(ahead):])


def copy_behind(whole, item):
    """Add what a copy tells; byte by byte, as it may copy its own."""
    many, back = item
    for _ in range(many):
        whole.append(whole[-back])


def item_bits(item, letters, backs):
    """How many bits an item costs by these lengths, None where a word is missing."""
    if not isinstance(item, tuple):
        return letters[item] or None
    many, back = item
    letter = letters[AHEAD_OF_COPIES + many]
    length = backs[back_of(back)]
    if letter == 0 or length == 0:
        return None
    return letter + length + back_of(back)
