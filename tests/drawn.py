"""What several tests draw: good lengths, prices and bytes, always from a chance that is handed in."""

from presshouse.prices import Prices


def good_lengths(chance, many, used):
    """Good lengths of so many letters, so many of them with words: leaves split again and again."""
    leaves = [0] * min(used, 1)
    while len(leaves) < used:
        at = chance.choice([at for at, depth in enumerate(leaves) if depth < 12])
        leaves[at] += 1
        leaves.append(leaves[at])
    lengths = [max(1, depth) for depth in leaves] + [0] * (many - used)
    chance.shuffle(lengths)
    return lengths


def good_prices(chance, letters, backs):
    """Prices with so many letters and backs that have words."""
    return Prices(good_lengths(chance, 273, letters), good_lengths(chance, 11, backs))


def some_bytes(chance, many, kinds):
    """So many bytes of the first so many letters."""
    return bytes(97 + chance.randrange(kinds) for _ in range(many))
