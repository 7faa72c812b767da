import functools
import itertools
import random
import time
import unittest

from drawn import good_prices, some_bytes
from presshouse.errors import BadBytes, BadPrices
from presshouse.least import Least, Never, least
from presshouse.prices import Prices, told_prices
from presshouse.rows import bits_of, told

NO_BYTES = [None, True, 1, "", "ab", [], [97], (97,), bytearray(b"ab"), memoryview(b"ab")]
NO_PRICES = [None, True, 1, "", [], {}, ([8] * 239 + [9] * 34, [4] * 6 + [3] * 5), Prices]
# Kinds of drawn prices: how many letters and how many backs have words.
KINDS = [(273, 11), (273, 10), (270, 5), (200, 11), (150, 3), (273, 1), (273, 0), (20, 11), (2, 2), (1, 1)]


@functools.lru_cache(None)
def own_back(back):
    return [c for c in range(11) if 2 ** c <= back < 2 ** (c + 1)][0]


def own_price(item, letters, backs):
    """What an item costs, None if it can't be used."""
    if isinstance(item, int):
        return letters[item] if letters[item] > 0 else None
    many, back = item
    c = own_back(back)
    return letters[254 + many] + backs[c] + c if letters[254 + many] > 0 and backs[c] > 0 else None


def own_items(data, at, ahead):
    """All items that can stand at a place, the first of equal ones first."""
    whole, here = ahead + data, len(ahead) + at
    runs = []
    for back in range(1, min(1024, here) + 1):
        run = 0
        while run < 18 and here + run < len(whole) and whole[here + run] == whole[here + run - back]:
            run += 1
        runs.append(run)
    copies = [(many, back) for many in range(18, 2, -1) for back, run in enumerate(runs, start=1) if run >= many]
    return [data[at]] + copies


def own_step(data, at, ahead, letters, backs, costs):
    """The fewest bits from a place by the costs behind it, and the first item that has them."""
    best, first = None, None
    for item in own_items(data, at, ahead):
        bits = own_price(item, letters, backs)
        behind = costs[at + (1 if isinstance(item, int) else item[0])]
        if bits is not None and behind is not None and (best is None or bits + behind < best):
            best, first = bits + behind, item
    return best, first


def own_least(data, prices, ahead):
    """The row, None where there is none, and the costs."""
    letters, backs = prices.letters(), prices.backs()
    costs, firsts = [None] * len(data) + [0], [None] * len(data)
    for at in range(len(data) - 1, -1, -1):
        costs[at], firsts[at] = own_step(data, at, ahead, letters, backs, costs)
    if costs[0] is None:
        return None, costs
    row, at = [], 0
    while at < len(data):
        row.append(firsts[at])
        at += 1 if isinstance(firsts[at], int) else firsts[at][0]
    return row, costs


def all_rows(data, ahead):
    """Each row that tells the bytes, whatever it costs."""
    if not data:
        return [[]]
    rows = []
    for item in own_items(data, 0, ahead):
        many = 1 if isinstance(item, int) else item[0]
        rows += [[item] + rest for rest in all_rows(data[many:], ahead + data[:many])]
    return rows


def own_shows(row, costs, data, prices, ahead):
    """What the interface says of `shows`, word by word; a row of None is Never's."""
    if len(costs) != len(data) + 1 or costs[-1] != 0 or any(type(one) is bool for one in costs):
        return False
    if any(one is not None and one < 0 for one in costs):
        return False
    letters, backs = prices.letters(), prices.backs()
    for at in range(len(data)):
        best, _ = own_step(data, at, ahead, letters, backs, costs)
        if best is not None and (costs[at] is None or best < costs[at]):
            return False
    if row is None:
        return costs[0] is None
    try:
        bits = bits_of(row, prices)
        return told(row, ahead=ahead) == data and bits is not None and bits == costs[0]
    except ValueError:
        return False


def tiers(many):
    """Bytes with copies of many lengths: the same words again and again, now and then another byte."""
    chance = random.Random(many)
    told_words = [some_bytes(chance, length, 4) for length in (3, 4, 7, 12, 19, 25)]
    made = b""
    while len(made) < many:
        made += chance.choice(told_words) if chance.random() < 0.8 else bytes([chance.randrange(256)])
    return made[:many]


class TestLeast(unittest.TestCase):
    def check(self, data, prices, ahead):
        row, costs = own_least(data, prices, ahead)
        found = least(data, prices, ahead=ahead)
        self.assertIs(type(found), Never if row is None else Least)
        self.assertEqual(found.costs, costs)
        self.assertIs(type(found.costs), list)
        self.assertTrue(all(one is None or type(one) is int for one in found.costs))
        self.assertIs(found.shows(data, prices, ahead=ahead), True)
        if row is not None:
            self.assertEqual(found.row, row)
            self.assertTrue(all(type(item) in (int, tuple) for item in found.row))
            self.assertEqual(told(found.row, ahead=ahead), data)
            self.assertEqual(bits_of(found.row, prices), found.costs[0])
        return found

    def test_by_hand(self):
        found = least(b"abcabcabc", told_prices())
        self.assertEqual(found.row, [97, 98, 99, (6, 3)])
        self.assertEqual(found.costs, [38, 30, 22, 14, 14, 14, 14, 16, 8, 0])
        found = least(b"abc", told_prices(), ahead=b"xabcx")
        self.assertEqual((found.row, found.costs), ([(3, 4)], [15, 16, 8, 0]))

    def test_no_bytes(self):
        for prices in (told_prices(), Prices([0] * 273, [0] * 11)):
            for ahead in (b"", b"abc"):
                found = self.check(b"", prices, ahead)
                self.assertEqual((found.row, found.costs), ([], [0]))

    def test_one_byte_and_two(self):
        for data in (b"a", b"ab", b"aa", b"\x00", b"\xff\xff"):
            for ahead in (b"", b"a", b"\xff" * 5):
                self.check(data, told_prices(), ahead)

    def test_told_prices_and_bytes_ahead(self):
        chance = random.Random(1)
        for many, kinds, further in ((30, 1, 0), (30, 2, 0), (60, 2, 40), (90, 3, 200), (90, 26, 90), (60, 2, 1500)):
            for _ in range(4):
                data, ahead = some_bytes(chance, many, kinds), some_bytes(chance, further, kinds)
                self.check(data, told_prices(), ahead)

    def test_bytes_without_copies(self):
        found = self.check(bytes(range(256)), told_prices(), b"")
        self.assertEqual(found.row, list(range(256)))
        self.assertEqual(found.costs[0], 239 * 8 + 17 * 9)

    def test_drawn_prices(self):
        chance = random.Random(2)
        for letters, backs in KINDS * 12:
            prices = good_prices(chance, letters, backs)
            kinds = chance.choice([1, 2, 3, 8])
            further = chance.choice([0, 1, 10, 100])
            self.check(some_bytes(chance, chance.randrange(40), kinds), prices, some_bytes(chance, further, kinds))

    def test_backs_about_1024(self):
        chance = random.Random(3)
        word = b"0123456789abcdefghijklmnopq"
        for gap in (1022, 1023, 1024, 1025, 1026):
            between = bytes(128 + chance.randrange(128) for _ in range(gap - len(word)))
            for prices in (told_prices(), good_prices(chance, 273, 11)):
                found = self.check(word, prices, word + between)
                self.assertLessEqual(max([item[1] for item in found.row if isinstance(item, tuple)], default=0), 1024)
            found = least(word, told_prices(), ahead=word + between)
            self.assertEqual(any(isinstance(item, tuple) for item in found.row), gap <= 1024)

    def test_lengths_about_18(self):
        for many in range(1, 45):
            found = self.check(b"a" * many, told_prices(), b"")
            self.assertEqual(found.row[0], 97)
            self.check(b"abcd" * many, told_prices(), b"")
        found = least(b"a" * 40, told_prices())
        self.assertEqual(found.row, [97, (18, 1), (18, 1), (3, 1)])

    def test_the_first_byte_of_what_stands_ahead_is_copied_too(self):
        for further in range(0, 6):
            ahead = b"abc" + b"xyzwv"[:further]
            found = self.check(b"abc", told_prices(), ahead)
            self.assertEqual(found.row, [(3, 3 + further)])
        self.assertEqual(least(b"abc", told_prices(), ahead=b"bc").row, [97, 98, 99])

    def test_few_letters(self):
        alone = Prices([0] * 97 + [1] + [0] * 175, [0] * 11)
        self.assertEqual(self.check(b"aaaa", alone, b"").row, [97] * 4)
        found = self.check(b"aaba", alone, b"")
        self.assertEqual(found.costs, [None, None, None, 1, 0])
        self.assertIsInstance(found, Never)
        copies = Prices([0] * 97 + [1] + [0] * 159 + [2, 2] + [0] * 14, [1] + [0] * 10)
        self.assertEqual(self.check(b"aaaaaaa", copies, b"").row[0], 97)
        self.check(b"aaaaabbb", copies, b"")
        # By copies of 3 or 4 alone 5 can't be told, 6, 7 and 8 can.
        only = Prices([0] * 257 + [1, 1] + [0] * 14, [1] + [0] * 10)
        for many, kind in ((0, Least), (1, Never), (2, Never), (3, Least), (4, Least), (5, Never), (6, Least), (12, Least)):
            self.assertIsInstance(self.check(b"a" * many, only, b"a"), kind)
        self.assertEqual(least(b"a" * 7, only, ahead=b"a").costs, [4, 4, None, 2, 2, None, None, 0])
        self.assertEqual(least(b"a" * 7, only, ahead=b"a").row, [(4, 1), (3, 1)])

    def test_never_just_where_it_can_not_be_from_place_0_on(self):
        only_a = Prices([0] * 97 + [2, 1] + [0] * 158 + [2] + [0] * 15, [1] + [0] * 10)
        found = self.check(b"zab", only_a, b"")
        self.assertEqual((type(found), found.costs), (Never, [None, 3, 1, 0]))
        # In the middle it can't be, but a copy leads over it.
        found = self.check(b"zzz", only_a, b"z")
        self.assertEqual((type(found), found.costs), (Least, [3, None, None, 0]))
        self.assertEqual(found.row, [(3, 1)])
        self.assertIsInstance(self.check(b"zzz", only_a, b""), Never)

    def test_of_several_a_byte_is_ahead_of_copies(self):
        # A copy of 3 costs 2 + 1 bits, the byte a just 1, the byte b 2.
        letters = [0] * 273
        letters[97], letters[98], letters[257] = 1, 2, 2
        prices = Prices(letters, [1] + [0] * 10)
        found = self.check(b"aaa", prices, b"a")
        self.assertEqual((found.row, found.costs[0]), ([97, 97, 97], 3))
        found = self.check(b"bbb", prices, b"b")
        self.assertEqual((found.row, found.costs[0]), ([(3, 1)], 3))
        even = Prices([0] * 97 + [1] + [0] * 159 + [2, 2] + [0] * 14, [1] + [0] * 10)
        self.assertEqual(self.check(b"aaa", even, b"a").row, [97, 97, 97])
        self.assertEqual(self.check(b"aaaa", even, b"a").row, [(4, 1)])
        self.assertEqual(self.check(b"aaaaa", even, b"a").row, [97, (4, 1)])
        self.check(b"a" * 10, even, b"a")

    def test_of_several_longer_copies_are_ahead(self):
        letters = [0] * 257 + [2, 2, 2, 2] + [0] * 12
        prices = Prices(letters, [1] + [0] * 10)
        for many, row in ((7, [(4, 1), (3, 1)]), (8, [(5, 1), (3, 1)]), (9, [(6, 1), (3, 1)]), (10, [(6, 1), (4, 1)]),
                          (13, [(6, 1), (4, 1), (3, 1)])):
            self.assertEqual(self.check(b"a" * many, prices, b"a").row, row)

    def test_of_one_length_the_least_back_is_taken(self):
        self.assertEqual(self.check(b"abc", told_prices(), b"abc1abc2abc345").row, [(3, 6)])
        # Letters of backs that cost as many bits: 1 + 2 and 3 + 0.
        letters = [0] * 257 + [1] + [0] * 15
        for backs in ([3, 2, 1, 3], [2, 3, 1, 3], [1, 2, 3, 3], [3, 3, 2, 1]):
            prices = Prices(letters, backs + [0] * 7)
            for ahead in (b"aaaaaaaa", b"abcabcab", b"abcdabca", b"aabcaabc"):
                for many in (3, 6):
                    self.check((ahead + ahead)[:many], prices, ahead)
        prices = Prices(letters, [3, 2, 1, 3] + [0] * 7)
        self.assertEqual(self.check(b"aaa", prices, b"a" * 16).row, [(3, 1)])
        self.assertEqual(self.check(b"aba", prices, b"ab" * 16).row, [(3, 2)])
        prices = Prices(letters, [3, 3, 1, 2] + [0] * 7)
        self.assertEqual(self.check(b"aaa", prices, b"a" * 16).row, [(3, 1)])
        prices = Prices(letters, [3, 1, 2, 3] + [0] * 7)
        self.assertEqual(self.check(b"aaa", prices, b"a" * 16).row, [(3, 2)])

    def test_all_rows_of_few_bytes(self):
        chance = random.Random(4)
        for letters, backs in KINDS * 4:
            prices = good_prices(chance, letters, backs)
            data, ahead = some_bytes(chance, chance.randrange(9), 2), some_bytes(chance, chance.randrange(5), 2)
            rows = [row for row in all_rows(data, ahead) if bits_of(row, prices) is not None]
            found = least(data, prices, ahead=ahead)
            self.assertEqual(isinstance(found, Never), rows == [])
            if rows:
                fewest = min(bits_of(row, prices) for row in rows)
                # all_rows tells those first whose items are first of such ones.
                self.assertEqual(found.row, [row for row in rows if bits_of(row, prices) == fewest][0])
                self.assertEqual(found.costs[0], fewest)

    def test_words_again_and_again(self):
        chance = random.Random(6)
        for prices in (told_prices(), good_prices(chance, 273, 11), good_prices(chance, 273, 8)):
            for ahead in (b"", tiers(700)):
                self.check(tiers(300), prices, ahead)

    def test_2000_bytes_and_2001(self):
        data = tiers(2000)
        found = least(data, told_prices())
        self.assertEqual(len(found.costs), 2001)
        self.assertEqual(told(found.row), data)
        for wrong in (data + b"a", b"a" * 2001, b"a" * 5000):
            with self.assertRaises(BadBytes):
                least(wrong, told_prices())

    def test_4096_bytes_ahead_and_4097(self):
        self.assertEqual(least(b"aaa", told_prices(), ahead=b"a" * 4096).row, [(3, 1)])
        for wrong in (b"a" * 4097, b"a" * 9000):
            with self.assertRaises(BadBytes):
                least(b"aaa", told_prices(), ahead=wrong)

    def test_what_is_none_is_refused(self):
        for wrong in NO_BYTES:
            with self.assertRaises(BadBytes):
                least(wrong, told_prices())
            with self.assertRaises(BadBytes):
                least(b"a", told_prices(), ahead=wrong)
        for wrong in NO_PRICES:
            with self.assertRaises(BadPrices):
                least(b"a", wrong)
            with self.assertRaises(BadPrices):
                least(b"", wrong, ahead=b"a")

    def test_bytes_are_refused_ahead_of_prices(self):
        for data, ahead in ((b"a" * 2001, b""), (b"a", b"a" * 4097), (None, b""), (b"a", None)):
            with self.assertRaises(BadBytes):
                least(data, None, ahead=ahead)

    def test_what_stands_ahead_goes_by_its_name(self):
        with self.assertRaises(TypeError):
            least(b"aaa", told_prices(), b"a")

    def test_a_few_seconds_are_enough(self):
        chance = random.Random(7)
        for kinds in (1, 2, 4, 100):
            data, ahead = some_bytes(chance, 2000, kinds), some_bytes(chance, 4096, kinds)
            begun = time.process_time()
            found = least(data, told_prices(), ahead=ahead)
            self.assertTrue(found.shows(data, told_prices(), ahead=ahead))
            self.assertLess(time.process_time() - begun, 5)


class TestShows(unittest.TestCase):
    def setUp(self):
        self.data, self.ahead, self.prices = b"abcabcabcdabcd", b"xabcxa", told_prices()
        self.found = least(self.data, self.prices, ahead=self.ahead)

    def ask(self, row, costs, data=None, prices=None, ahead=None):
        """What is told of these, if it is as the own look says."""
        data = self.data if data is None else data
        prices = self.prices if prices is None else prices
        ahead = self.ahead if ahead is None else ahead
        one = Never(costs) if row is None else Least(row, costs)
        answer = one.shows(data, prices, ahead=ahead)
        self.assertIs(answer, own_shows(row, costs, data, prices, ahead), (row, costs))
        return answer

    def test_each_cost_one_more_and_one_less(self):
        costs = self.found.costs
        self.assertTrue(self.ask(self.found.row, costs))
        for at in range(len(costs)):
            for other in (costs[at] + 1, costs[at] - 1, costs[at] + 50, 0, None, 10 ** 30):
                self.ask(self.found.row, costs[:at] + [other] + costs[at + 1:])
            self.assertFalse(self.ask(self.found.row, costs[:at] + [costs[at] + 1] + costs[at + 1:]))
            self.assertFalse(self.ask(self.found.row, costs[:at] + [None] + costs[at + 1:]))
        self.assertFalse(self.ask(self.found.row, [costs[0] - 1] + costs[1:]))
        self.assertFalse(self.ask(self.found.row, costs[:-1] + [1]))

    def test_costs_that_are_lower_may_show(self):
        # A place that the row does not come to may be told too low, as long as no item leads there for too few.
        costs = self.found.costs
        shown = [at for at in range(len(costs) - 1) if self.ask(self.found.row, costs[:at] + [costs[at] - 1] + costs[at + 1:])]
        self.assertNotIn(0, shown)
        self.assertTrue(Least([97], [8, 0]).shows(b"a", told_prices()))
        self.assertFalse(Least([97], [7, 0]).shows(b"a", told_prices()))
        self.assertFalse(Least([97], [9, 0]).shows(b"a", told_prices()))
        self.assertTrue(Least([97, 98], [16, 8, 0]).shows(b"ab", told_prices()))
        self.assertFalse(Least([97, 98], [16, 7, 0]).shows(b"ab", told_prices()))
        self.assertTrue(Least([(3, 1)], [13, 5, 8, 0]).shows(b"aaa", told_prices(), ahead=b"a"))
        self.assertTrue(Least([(3, 1)], [13, 5, 0, 0]).shows(b"aaa", told_prices(), ahead=b"a"))
        self.assertFalse(Least([(3, 1)], [13, 4, 8, 0]).shows(b"aaa", told_prices(), ahead=b"a"))

    def test_costs_too_many_and_too_few(self):
        row, costs = self.found.row, self.found.costs
        for wrong in (costs[1:], costs[:-1], costs + [0], [0] + costs, [costs[0]] + costs, [], costs[:1], [0]):
            self.assertFalse(self.ask(row, wrong))
            self.assertFalse(self.ask(None, wrong))

    def test_costs_of_another_kind(self):
        prices = Prices([0] * 97 + [1] + [0] * 175, [0] * 11)
        self.assertTrue(Least([97], [1, 0]).shows(b"a", prices))
        self.assertFalse(Least([97], [True, 0]).shows(b"a", prices))
        self.assertFalse(Least([97], [1, False]).shows(b"a", prices))
        self.assertFalse(Least([98, 97], [None, True, 0]).shows(b"ba", prices))
        self.assertTrue(Never([None, 1, 0]).shows(b"ba", prices))
        self.assertFalse(Never([None, True, 0]).shows(b"ba", prices))
        self.assertFalse(Never([None, 1, False]).shows(b"ba", prices))
        self.assertFalse(Never([False, 1, 0]).shows(b"ba", prices))

    def test_costs_below_0_and_another_end(self):
        row, costs = self.found.row, self.found.costs
        for at in range(len(costs)):
            for low in (-1, -1000):
                self.assertFalse(self.ask(row, costs[:at] + [low] + costs[at + 1:]))
        for end in (1, None, 8, -8):
            self.assertFalse(self.ask(row, costs[:-1] + [end]))
        self.assertFalse(self.ask([], [None], data=b""))
        self.assertFalse(self.ask([], [1], data=b""))
        self.assertTrue(self.ask([], [0], data=b""))
        self.assertFalse(self.ask(None, [0], data=b""))
        self.assertFalse(self.ask(None, [None], data=b""))
        # Were costs below 0 taken, these would show a dearer row, for no item leads from the first place to the others.
        self.assertFalse(Least([97, 98, 99], [24, 16, -1, 0]).shows(b"abc", told_prices()))

    def test_items_otherwise(self):
        row, costs = self.found.row, self.found.costs
        for at in range(len(row)):
            for other in (0, 97, 256, -1, True, (3, 1), (3, 3), (6, 3), (2, 1), (19, 1), (3, 0), (3, 1025), (3, 9999), "a",
                          None, [3, 3], [97], (3,), (3, 3, 3), b"a"):
                self.ask(row[:at] + [other] + row[at + 1:], costs)
            self.assertFalse(self.ask(row[:at] + row[at + 1:], costs))
        for wrong in ([], row + [97], row[::-1], row + [None], [None], row + [(3, 3)]):
            self.assertFalse(self.ask(wrong, costs))
        one = Prices([0, 1] + [0] * 271, [0] * 11)
        self.assertTrue(Least([1], [1, 0]).shows(b"\x01", one))
        self.assertFalse(Least([True], [1, 0]).shows(b"\x01", one))

    def test_rows_that_are_as_cheap_show_too(self):
        prices = Prices([0] * 97 + [1] + [0] * 159 + [2] + [0] * 14 + [2], [1] + [0] * 10)
        self.assertTrue(self.ask([97, 97, 97], [3, 2, 1, 0], b"aaa", prices, b"a"))
        self.assertTrue(self.ask([(3, 1)], [3, 2, 1, 0], b"aaa", prices, b"a"))

    def test_rows_that_are_dearer_or_can_not_be_used(self):
        data = b"abcabc"
        found = least(data, told_prices())
        self.assertEqual(found.row, [97, 98, 99, (3, 3)])
        self.assertFalse(self.ask(list(data), found.costs, data, ahead=b""))
        self.assertFalse(self.ask(list(data), [48] + found.costs[1:], data, ahead=b""))
        self.assertFalse(self.ask([97, 98, 99, (3, 3)], [39] + found.costs[1:], data, ahead=b""))
        none = Prices([0] * 273, [0] * 11)
        self.assertFalse(self.ask([97], [None, 0], b"a", none, b""))
        self.assertFalse(self.ask([97], [8, 0], b"a", none, b""))
        self.assertFalse(self.ask([97], [0, 0], b"a", none, b""))
        self.assertTrue(self.ask(None, [None, 0], b"a", none, b""))

    def test_none_and_numbers_of_never(self):
        only_a = Prices([0] * 97 + [2, 1] + [0] * 158 + [2] + [0] * 15, [1] + [0] * 10)
        data = b"zaaaab"
        self.assertEqual(least(data, only_a).costs[0], None)
        costs = least(data, only_a).costs
        for at in range(len(costs)):
            for other in (None, 0, 1, 2, 3, 4, 5, 99, -1):
                self.ask(None, costs[:at] + [other] + costs[at + 1:], data, only_a, b"")
                self.ask([122], costs[:at] + [other] + costs[at + 1:], data, only_a, b"")
        self.assertTrue(self.ask(None, [None, None, None, 0], b"zzz", only_a, b""))
        self.assertFalse(self.ask(None, [None, None, None, 0], b"zzz", only_a, b"z"))
        self.assertTrue(self.ask([(3, 1)], [3, None, None, 0], b"zzz", only_a, b"z"))
        # No item leads from the place at all, so no number there is too high.
        self.assertTrue(self.ask([(3, 1)], [3, 999, None, 0], b"zzz", only_a, b"z"))
        self.assertTrue(self.ask(None, [None, 999, 5, 0], b"zzz", only_a, b""))

    def test_drawn(self):
        chance = random.Random(8)
        answers = []
        for letters, backs in KINDS * 8:
            prices = good_prices(chance, letters, backs)
            data, ahead = some_bytes(chance, chance.randrange(12), 2), some_bytes(chance, chance.randrange(30), 2)
            found = least(data, prices, ahead=ahead)
            row = getattr(found, "row", None)
            for _ in range(20):
                costs = list(found.costs)
                for _ in range(chance.randrange(3)):
                    at = chance.randrange(len(costs))
                    costs[at] = chance.choice([None, 0, (costs[at] or 0) + 1, max(0, (costs[at] or 0) - 1), 40])
                answers.append(self.ask(row, costs, data, prices, ahead))
        self.assertIn(sum(answers), range(300, 1500))

    def test_with_other_data_prices_and_bytes_ahead(self):
        row, costs = self.found.row, self.found.costs
        chance = random.Random(9)
        for data in (b"", b"abcabcabcdabce", b"abcabcabcdabc", self.data + b"a", self.data[::-1], b"a" * 14):
            self.assertFalse(self.ask(row, costs, data=data))
        for prices in [good_prices(chance, *kind) for kind in KINDS]:
            self.assertFalse(self.ask(row, costs, prices=prices))
        for ahead in (b"", b"x", b"abcabc", b"xxxxxx", self.ahead + b"x", self.data):
            self.ask(row, costs, ahead=ahead)
        self.assertFalse(Least(row, costs).shows(self.data, self.prices))
        # What stands ahead makes another row the least one.
        self.assertTrue(self.ask([97, 98, 99], [24, 16, 8, 0], b"abc", ahead=b""))
        self.assertFalse(self.ask([97, 98, 99], [24, 16, 8, 0], b"abc", ahead=b"abc"))
        self.assertTrue(self.ask([97, 98, 99], [24, 16, 8, 0], b"abc", ahead=b"abc" + b"x" * 1022))
        self.assertFalse(self.ask([97, 98, 99], [24, 16, 8, 0], b"abc", ahead=b"abc" + b"x" * 1021))
        self.assertFalse(self.ask([97, 98, (3, 2)], [30, 22, 14, 16, 8, 0], b"ababa", ahead=b"abab"))
        self.assertTrue(self.ask([97, 98, (3, 2)], [30, 22, 14, 16, 8, 0], b"ababa", ahead=b""))

    def test_many_bytes_are_taken(self):
        # shows refuses nothing, so what it is asked may go beyond what least takes.
        found = Least([97] + [(18, 1)] * 120, [8 + 13 * 120] + own_tail(2160))
        self.assertTrue(found.shows(b"a" * 2161, told_prices()))
        found = Least([(18, 1)] * 120, own_tail(2160))
        self.assertTrue(found.shows(b"a" * 2160, told_prices(), ahead=b"a" * 4097))
        self.assertFalse(found.shows(b"a" * 2160, told_prices()))

    def test_fields_as_they_stand(self):
        row, costs = list(self.found.row), list(self.found.costs)
        found = Least(row, costs)
        found.costs[0] += 1
        self.assertFalse(found.shows(self.data, self.prices, ahead=self.ahead))
        found.costs[0] -= 1
        self.assertTrue(found.shows(self.data, self.prices, ahead=self.ahead))
        found.row.append(97)
        self.assertFalse(found.shows(self.data, self.prices, ahead=self.ahead))
        found.row = list(row)
        self.assertTrue(found.shows(self.data, self.prices, ahead=self.ahead))
        for other in (None, "ab", 3, {}, tuple(row), True):
            found.row = other
            self.assertIs(found.shows(self.data, self.prices, ahead=self.ahead), False)
        found.row = row
        for other in (None, "ab", 3, {}, tuple(costs), True):
            found.costs = other
            self.assertIs(found.shows(self.data, self.prices, ahead=self.ahead), False)
        never = Never([None, 0])
        none = Prices([0] * 273, [0] * 11)
        self.assertIs(never.shows(b"a", none), True)
        for other in (None, "ab", 3, {}, (None, 0), True, [None, "0"], ["", 0], [None, 0, 0], [[], 0]):
            never.costs = other
            self.assertIs(never.shows(b"a", none), False)

    def test_fields_are_copies_of_the_lists(self):
        pair, back = [3, 1], [1]
        row, costs = [97, (3, back), pair], [21, None, 5, 0]
        found, never = Least(row, costs), Never(costs)
        self.assertEqual((found.row, found.costs, never.costs), (row, costs, costs))
        row.append(5)
        pair.append(7)
        back.append(7)
        costs[0] = 8
        self.assertEqual(found.row, [97, (3, [1]), [3, 1]])
        self.assertEqual((found.costs, never.costs), ([21, None, 5, 0], [21, None, 5, 0]))
        found.row.clear()
        found.costs.clear()
        self.assertEqual((row, costs), ([97, (3, [1, 7]), [3, 1, 7], 5], [8, None, 5, 0]))
        self.assertEqual(set(vars(found)), {"row", "costs"})
        self.assertEqual(set(vars(never)), {"costs"})

    def test_what_is_told_is_new(self):
        found = least(self.data, self.prices, ahead=self.ahead)
        found.row.clear()
        found.costs.clear()
        again = least(self.data, self.prices, ahead=self.ahead)
        self.assertEqual((again.row, again.costs), (self.found.row, self.found.costs))

    def test_what_stands_ahead_goes_by_its_name(self):
        for one in (self.found, Never([0])):
            with self.assertRaises(TypeError):
                one.shows(self.data, self.prices, self.ahead)

    def test_methods_stand_in_the_classes_themselves(self):
        for one in (Least, Never):
            self.assertIn("shows", vars(one))
            self.assertEqual(one.__module__, "presshouse.least")
        self.assertFalse(issubclass(Never, Least) or issubclass(Least, Never))


def own_tail(many):
    """The costs of as many bytes, all alike, behind one of them."""
    costs = [0]
    for left in range(1, many + 1):
        costs.insert(0, min([costs[0] + 8] + [costs[k - 1] + 13 for k in range(3, 19) if k <= left]))
    return costs


if __name__ == "__main__":
    unittest.main()
