import random
import unittest

from drawn import good_prices, some_bytes
from presshouse.errors import BadBytes, BadItems, BadPrices
from presshouse.prices import Prices, told_prices
from presshouse.rows import bits_of, told

# Each is no item, wherever it stands and whatever stands ahead.
NONE = [256, -1, 1000, True, False, None, "a", "", b"a", b"", [3, 1], [97], {3: 1}, {3}, 10 ** 30, (), (3,), (3, 1, 1),
        (2, 1), (19, 1), (3, 0), (3, -1), (3, 1025), (0, 1), (-3, 1), (True, 1), (3, True), (None, 1), (3, None),
        ("3", 1), (3, "1"), ([3], 1), (3, [1]), ((3, 1), 1), (3, (1,)), (10 ** 30, 1), (3, 10 ** 30)]


def own_told(items, ahead):
    """Texts of signs in place of bytes: each copy is the rest of the text, again and again."""
    text = ahead.decode("latin-1")
    for item in items:
        if isinstance(item, int):
            text += chr(item)
        else:
            many, back = item
            rest = text[len(text) - back:]
            text += (rest * 18)[:many]
    return text[len(ahead):].encode("latin-1")


def own_back(back):
    """By the table of point 5, written out."""
    return [c for c in range(11) if back in range(2 ** c, 2 ** (c + 1))][0]


def own_bits(items, letters, backs):
    bits = 0
    for item in items:
        if isinstance(item, int):
            lengths = [letters[item]]
        else:
            lengths = [letters[{many: 257 + k for k, many in enumerate(range(3, 19))}[item[0]]], backs[own_back(item[1])]]
            bits += own_back(item[1])
        if 0 in lengths:
            return None
        bits += sum(lengths)
    return bits


def drawn_row(chance, ahead):
    row, there = [], ahead
    for _ in range(chance.randrange(30)):
        if there and chance.random() < 0.6:
            row.append((chance.randrange(3, 19), chance.randrange(1, min(there, 1024) + 1)))
            there += row[-1][0]
        else:
            row.append(chance.randrange(256))
            there += 1
    return row


class TestTold(unittest.TestCase):
    def refused(self, items, at, **more):
        with self.assertRaises(BadItems) as caught:
            told(items, **more)
        self.assertEqual(caught.exception.at, at)
        self.assertIs(type(caught.exception.at), type(at))

    def test_bytes_alone(self):
        self.assertEqual(told([]), b"")
        self.assertEqual(told([], ahead=b"abc"), b"")
        self.assertEqual(told([104, 105]), b"hi")
        self.assertEqual(told([0, 255], ahead=b"abc"), b"\x00\xff")
        self.assertEqual(told(list(range(256))), bytes(range(256)))
        self.assertIs(type(told([1])), bytes)

    def test_copies_of_3_and_of_18(self):
        self.assertEqual(told([97, 98, 99, (3, 3)]), b"abcabc")
        self.assertEqual(told([97, (18, 1)]), b"a" * 19)
        self.assertEqual(told([(18, 18), (3, 18)], ahead=bytes(range(18))), bytes(range(18)) + b"\x00\x01\x02")
        self.assertEqual(told([97, 98, (18, 2)]), b"ab" * 10)

    def test_backs_less_than_the_length(self):
        self.assertEqual(told([97, (3, 1)]), b"aaaa")
        self.assertEqual(told([97, 98, (5, 2)]), b"abababa")
        self.assertEqual(told([97, 98, 99, (4, 3), 100, (7, 5)]), b"abcabcad" + b"abcadab")

    def test_copies_from_ahead(self):
        self.assertEqual(told([(3, 3)], ahead=b"abc"), b"abc")
        self.assertEqual(told([(4, 2)], ahead=b"abc"), b"bcbc")
        self.assertEqual(told([120, (3, 2)], ahead=b"a"), b"xaxa")

    def test_backs_up_to_the_first_byte_of_all_and_one_farther(self):
        for many in (0, 1, 2, 3, 700, 1023):
            ahead = bytes(k % 251 for k in range(many))
            for row in ([], [1], [1, 2]):
                there = many + len(row)
                if 0 < there <= 1024:
                    self.assertEqual(told(row + [(3, there)], ahead=ahead), own_told(row + [(3, there)], ahead))
                if there < 1024:
                    self.refused(row + [(3, there + 1)], len(row), ahead=ahead)

    def test_backs_of_1024_and_1025(self):
        for many in (1024, 1025, 1026, 4096):
            ahead = bytes(k % 251 for k in range(many))
            self.assertEqual(told([(18, 1024)], ahead=ahead), ahead[many - 1024:many - 1006])
            self.refused([(18, 1025)], 0, ahead=ahead)
        self.refused([(3, 1024)], 0, ahead=bytes(1023))
        self.assertEqual(told([9, (3, 1024)], ahead=b"\x07" + bytes(1022)), b"\x09\x07\x00\x00")

    def test_how_much_may_stand_ahead(self):
        self.assertEqual(told([(3, 1)], ahead=b"x" * 4096), b"xxx")
        for ahead in (b"x" * 4097, b"x" * 9000, bytearray(b"x"), "x", [120], (120,), None, True, 1, memoryview(b"x")):
            with self.assertRaises(BadBytes):
                told([(3, 1)], ahead=ahead)

    def test_what_stands_ahead_goes_by_its_name(self):
        with self.assertRaises(TypeError):
            told([(3, 1)], b"x")

    def test_of_bad_bytes_and_a_bad_row_the_bytes_are_told(self):
        for items in (None, [256], [(3, 1)], "ab"):
            with self.assertRaises(BadBytes):
                told(items, ahead=b"x" * 4097)
            with self.assertRaises(BadBytes):
                told(items, ahead="x")

    def test_items_that_are_none(self):
        for none in NONE:
            self.refused([none], 0, ahead=b"abc" * 500)
            self.refused([1, (3, 1), none, 2, none], 2, ahead=b"abc" * 500)

    def test_the_first_that_is_none_or_copies_from_too_far_is_told(self):
        self.refused([1, (3, 2), 256], 1)
        self.refused([1, 256, (3, 9)], 1)
        self.refused([1, (3, 1), (3, 5), 256], 2)
        self.refused([(3, 1)], 0)
        self.assertEqual(told([1, (3, 1), (3, 4)]), b"\x01" * 7)

    def test_what_is_no_list(self):
        for items in (None, True, 1, "", "ab", b"", b"ab", (), (1, 2), {}, {1: 2}, {1}, (3, 1), iter([1])):
            self.refused(items, None)

    def test_drawn_rows(self):
        chance = random.Random(11)
        for many in [0, 1, 2, 5, 30, 1023, 1024, 1500, 4096] * 12:
            ahead = some_bytes(chance, many, 3)
            row = drawn_row(chance, many)
            kept = list(row)
            self.assertEqual(told(row, ahead=ahead), own_told(row, ahead))
            self.assertEqual(row, kept)

    def test_long_rows_are_told_too(self):
        self.assertEqual(told([7] + [(18, 1)] * 500), b"\x07" * 9001)


class TestBitsOf(unittest.TestCase):
    def refused(self, items, at, prices=None):
        with self.assertRaises(BadItems) as caught:
            bits_of(items, prices or told_prices())
        self.assertEqual(caught.exception.at, at)
        self.assertIs(type(caught.exception.at), type(at))

    def test_told_prices(self):
        prices = told_prices()
        for row, bits in (([], 0), ([0], 8), ([238], 8), ([239], 9), ([255], 9), ([(3, 1)], 13), ([(18, 1)], 13),
                          ([(3, 2)], 14), ([(3, 3)], 14), ([(3, 4)], 15), ([(3, 63)], 18), ([(3, 64)], 18),
                          ([(3, 127)], 18), ([(3, 128)], 19), ([(3, 1023)], 21), ([(3, 1024)], 22),
                          ([97, (5, 1), 240, (9, 512)], 8 + 13 + 9 + 21)):
            self.assertEqual(bits_of(row, prices), bits, row)
            self.assertIs(type(bits_of(row, prices)), int)

    def test_each_letter_and_each_back_by_lengths_of_their_own(self):
        # Thirteen letters that have words, moved along all bytes.
        for moved in range(0, 244):
            letters = [0] * moved + list(range(1, 13)) + [12] + [0] * (260 - moved)
            prices = Prices(letters, [1] + [0] * 10)
            for item in range(256):
                bits = min(item - moved + 1, 12) if moved <= item <= moved + 12 else None
                self.assertEqual(bits_of([item], prices), bits)
        letters = [0] * 257 + [4] * 16
        for backs in ([1, 2, 3, 4, 5, 6, 7, 8, 9, 10, 10], [10, 10, 9, 8, 7, 6, 5, 4, 3, 2, 1]):
            prices = Prices(letters, backs)
            for back in range(1, 1025):
                self.assertEqual(bits_of([(3, back)], prices), 4 + backs[own_back(back)] + own_back(back), back)

    def test_each_length_of_copies(self):
        lengths = [1, 2, 3, 4, 5, 6, 7, 8, 9, 10, 11, 12, 12]
        for first in range(4):
            letters = [0] * 257 + [0] * first + lengths + [0] * (3 - first)
            prices = Prices(letters, [1] + [0] * 10)
            for many in range(3, 19):
                at = many - 3 - first
                bits = lengths[at] + 1 if 0 <= at < 13 else None
                self.assertEqual(bits_of([(many, 1)], prices), bits, (many, first))

    def test_what_has_no_word_can_not_be_used(self):
        none = Prices([0] * 273, [0] * 11)
        self.assertEqual(bits_of([], none), 0)
        self.assertIsNone(bits_of([1], none))
        self.assertIsNone(bits_of([(3, 1)], none))
        self.assertIsNone(bits_of([(3, 1)], Prices([8] * 239 + [9] * 34, [0] * 11)))
        self.assertIsNone(bits_of([(3, 1)], Prices([0] * 273, [4] * 6 + [3] * 5)))
        alone = Prices([1] + [0] * 272, [0, 1] + [0] * 9)
        self.assertEqual(bits_of([0, 0], alone), 2)
        self.assertIsNone(bits_of([0, 1, 0], alone))
        self.assertIsNone(bits_of([0, (3, 2)], alone))
        copies = Prices([0] * 257 + [1] + [0] * 15, [0, 1] + [0] * 9)
        self.assertEqual(bits_of([(3, 2), (3, 3)], copies), 6)
        for item in ((3, 1), (3, 4), (4, 2), (4, 3), 0):
            self.assertIsNone(bits_of([(3, 2), item], copies))
        # A row that is none is refused also where a word is missing ahead.
        self.refused([1, 256], 1, none)

    def test_copies_may_be_from_anywhere(self):
        self.assertEqual(bits_of([(3, 1024), (18, 1)], told_prices()), 22 + 13)

    def test_items_that_are_none(self):
        for none in NONE:
            self.refused([none], 0)
            self.refused([1, (3, 1000), none, 2, none], 2)

    def test_what_is_no_list(self):
        for items in (None, True, 1, "", "ab", b"", b"ab", (), (1, 2), {}, {1: 2}, {1}, (3, 1), iter([1])):
            self.refused(items, None)

    def test_what_is_no_prices_is_told_ahead_of_items(self):
        for prices in (None, True, 1, "", [], ([8] * 239 + [9] * 34, [4] * 6 + [3] * 5), {}, Prices):
            for items in ([], [1], [256], None, "ab"):
                with self.assertRaises(BadPrices):
                    bits_of(items, prices)

    def test_drawn_rows(self):
        chance = random.Random(12)
        told_none = 0
        for letters, backs in [(273, 11), (273, 10), (260, 11), (2, 2)] * 50:
            prices = good_prices(chance, letters, backs)
            row = drawn_row(chance, 2000)
            kept = list(row)
            bits = bits_of(row, prices)
            self.assertEqual(bits, own_bits(row, prices.letters(), prices.backs()))
            self.assertEqual(row, kept)
            told_none += bits is None
        self.assertIn(told_none, range(50, 180))


if __name__ == "__main__":
    unittest.main()
