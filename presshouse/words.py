"""Words by lengths, and the least lengths under a bound."""

from presshouse.errors import BadBound, BadLengths, BadWeights
from presshouse.kinds import are_numbers, is_number

FEWEST_LETTERS = 2
MOST_LETTERS = 300
LONGEST = 12
HEAVIEST = 1000000

# Stands where a coin has its letter; letters are never below 0.
PACKAGE = -1


def are_by_letters(told, most):
    """Whether this is a list of 2 to 300 numbers from 0 to most."""
    return are_numbers(told, 0, most) and FEWEST_LETTERS <= len(told) <= MOST_LETTERS


def are_good(lengths):
    """Whether words of these lengths can be made that leave nothing unsaid."""
    used = [length for length in lengths if length > 0]
    if len(used) < 2:
        return used == [] or used == [1]
    # Counted in words of the longest length, so that the sum stays whole.
    return sum([1 << (LONGEST - length) for length in used]) == 1 << LONGEST


def words(lengths):
    """The word of each letter that has one."""
    if not are_by_letters(lengths, LONGEST) or not are_good(lengths):
        raise BadLengths("no list of 2 to 300 good lengths from 0 to 12")
    turn = sorted([(length, letter) for letter, length in enumerate(lengths) if length > 0])
    found = {}
    number = 0
    ahead = 0
    for length, letter in turn:
        number = number << (length - ahead)
        found[letter] = f"{number:b}".zfill(length)
        number += 1
        ahead = length
    return {letter: found[letter] for letter in sorted(found)}


def least_lengths(weights, bound):
    """The lengths, none above the bound, by which weight times length is least."""
    if not are_by_letters(weights, HEAVIEST):
        raise BadWeights("no list of 2 to 300 weights from 0 to 1000000")
    coins = sorted([(weight, letter) for letter, weight in enumerate(weights) if weight > 0])
    if not coins:
        raise BadWeights("no weight above 0")
    if not is_number(bound, 1, LONGEST) or 1 << bound < len(coins):
        raise BadBound("no bound from 1 to 12 under which each letter has a word")
    if len(coins) == 1:
        return [1 if weight > 0 else 0 for weight in weights]
    lengths = [0] * len(weights)
    for letter in taken_coins(levels_of(coins, bound)):
        lengths[letter] += 1
    return lengths


def levels_of(coins, bound):
    """As many levels as the bound, each a list of pairs: a weight and a letter, or PACKAGE."""
    levels = [coins]
    while len(levels) < bound:
        # The sort keeps what is equal in turn: coins first, by letters, then packages.
        levels.append(sorted(coins + packages_of(levels[-1]), key=lambda one: one[0]))
    return levels


def packages_of(level):
    """The packages of each two that stand side by side, one left over being left out."""
    return [(level[at][0] + level[at + 1][0], PACKAGE) for at in range(0, len(level) - 1, 2)]


def taken_coins(levels):
    """The letters of all coins in the first ones of the last level."""
    letters = []
    many = 2 * len(levels[0]) - 2
    for level in reversed(levels):
        coins = [letter for _, letter in level[:many] if letter != PACKAGE]
        letters.extend(coins)
        # Packages stand in the turn of what they hold, so the first so many
        # hold just the first twice as many of the level ahead.
        many = 2 * (len(level[:many]) - len(coins))
    return letters
