import random
import unittest

from drawn import good_lengths
from presshouse.errors import BadPrices, PressError
from presshouse.prices import Prices, told_prices

LETTERS = [8] * 239 + [9] * 34
BACKS = [4] * 6 + [3] * 5


def few(many, lengths):
    """A list of so many lengths: these first, then none."""
    return lengths + [0] * (many - len(lengths))


class TestPrices(unittest.TestCase):
    def refused(self, letters, backs):
        with self.assertRaises(BadPrices):
            Prices(letters, backs)

    def test_good_lists_of_many_kinds_are_told_as_they_are(self):
        for letters in (LETTERS, few(273, []), few(273, [1]), few(273, [1, 1]), [0] * 272 + [1],
                        few(273, [1, 2, 3, 4, 5, 6, 7, 8, 9, 10, 11, 12, 12])):
            for backs in (BACKS, few(11, []), [0] * 10 + [1], few(11, [2, 2, 2, 2]), list(range(1, 11)) + [10]):
                prices = Prices(letters, backs)
                self.assertEqual(prices.letters(), letters)
                self.assertEqual(prices.backs(), backs)
                self.assertIs(type(prices.letters()), list)
                self.assertIs(type(prices.backs()), list)

    def test_drawn_lists(self):
        chance = random.Random(5)
        for used in (1, 2, 3, 7, 100, 272, 273):
            letters = good_lengths(chance, 273, used)
            backs = good_lengths(chance, 11, min(used, 11))
            prices = Prices(letters, backs)
            self.assertEqual((prices.letters(), prices.backs()), (letters, backs))

    def test_lists_too_short_and_too_long(self):
        for letters in ([], [1], [1, 1], LETTERS[1:] + [], few(272, [1, 1]), few(274, [1, 1]), LETTERS + [0], BACKS):
            self.refused(letters, BACKS)
        for backs in ([], [1], few(10, [1, 1]), few(12, [1, 1]), BACKS + [0], LETTERS):
            self.refused(LETTERS, backs)

    def test_lists_that_are_not_good(self):
        for lengths in ([2], [12], [1, 2], [1, 1, 1], [1, 1, 12], [2, 2, 2], [1, 2, 3, 3, 12], [2, 2, 2, 3]):
            self.refused(few(273, lengths), BACKS)
            self.refused(LETTERS, few(11, lengths))

    def test_lengths_that_are_none(self):
        for lengths in ([True], [True, True], [1, True], [13], [-1], [1, 1, -1], ["1", "1"], [None], [[1]], [b"\x01"]):
            self.refused(few(273, lengths), BACKS)
            self.refused(LETTERS, few(11, lengths))
        self.refused([1, 1] + [False] * 271, BACKS)
        self.refused(LETTERS, [1, 1] + [False] * 9)
        # By twos all of these would be good, were 13 a length.
        self.refused(few(273, list(range(1, 14)) + [13]), BACKS)

    def test_what_is_no_list(self):
        for told in (None, 1, True, "", "1" * 273, b"\x01" * 11, tuple(LETTERS), dict(enumerate(LETTERS)), {1}):
            self.refused(told, BACKS)
        for told in (None, 1, True, "", "1" * 11, b"\x01" * 11, tuple(BACKS), dict(enumerate(BACKS)), {1}):
            self.refused(LETTERS, told)
        self.assertTrue(issubclass(BadPrices, PressError))

    def test_lists_handed_in_and_changed_change_nothing(self):
        letters, backs = list(LETTERS), list(BACKS)
        prices = Prices(letters, backs)
        self.assertEqual((letters, backs), (LETTERS, BACKS))
        letters[0] = 12
        backs.append(3)
        self.assertEqual((prices.letters(), prices.backs()), (LETTERS, BACKS))

    def test_lists_told_and_changed_change_nothing(self):
        prices = Prices(LETTERS, BACKS)
        prices.letters().clear()
        prices.backs()[3] = 7
        self.assertEqual((prices.letters(), prices.backs()), (LETTERS, BACKS))
        self.assertIsNot(prices.letters(), prices.letters())
        self.assertIsNot(prices.backs(), prices.backs())

    def test_those_of_equal_lists_are_equal(self):
        self.assertTrue(Prices(LETTERS, BACKS) == Prices(list(LETTERS), list(BACKS)))
        self.assertFalse(Prices(LETTERS, BACKS) != Prices(list(LETTERS), list(BACKS)))
        self.assertFalse(Prices(LETTERS, BACKS) == Prices(LETTERS[::-1], BACKS))
        self.assertFalse(Prices(LETTERS, BACKS) == Prices(LETTERS, BACKS[::-1]))
        self.assertTrue(Prices(LETTERS, BACKS) != Prices(LETTERS, BACKS[::-1]))
        for other in (None, 1, LETTERS, (LETTERS, BACKS), "Prices", [LETTERS, BACKS]):
            self.assertFalse(Prices(LETTERS, BACKS) == other)
            self.assertTrue(Prices(LETTERS, BACKS) != other)

    def test_told_prices(self):
        prices = told_prices()
        self.assertIsInstance(prices, Prices)
        self.assertEqual(len(prices.letters()), 273)
        for letter, length in enumerate(prices.letters()):
            self.assertEqual(length, 8 if letter <= 238 else 9, letter)
        self.assertEqual((prices.letters()[238], prices.letters()[239]), (8, 9))
        self.assertEqual(prices.backs(), [4, 4, 4, 4, 4, 4, 3, 3, 3, 3, 3])
        self.assertTrue(prices == Prices(LETTERS, BACKS))
        self.assertTrue(prices == told_prices())

    def test_methods_stand_in_the_class_itself(self):
        for name in ("letters", "backs", "__eq__"):
            self.assertIn(name, vars(Prices))
        self.assertEqual(Prices.__module__, "presshouse.prices")
        self.assertEqual(told_prices.__module__, "presshouse.prices")


if __name__ == "__main__":
    unittest.main()
