"""The error classes: all there, straight under PressError, with their fields."""

import unittest

from presshouse import errors
from presshouse.errors import BadItems, BadStream, PressError

NAMES = [
    "BadBytes", "BadHex", "BadLengths", "BadWeights", "BadBound", "BadPrices", "BadItems",
    "BadStep", "BadStream", "BadDifference", "BadFiles", "BadPack", "BadName",
]


class TestErrors(unittest.TestCase):
    def test_press_error_stands_under_value_error(self):
        self.assertEqual(PressError.__bases__, (ValueError,))

    def test_all_stand_straight_under_press_error(self):
        for name in NAMES:
            with self.subTest(name):
                self.assertEqual(getattr(errors, name).__bases__, (PressError,))

    def test_all_are_defined_in_their_file(self):
        for name in NAMES + ["PressError"]:
            with self.subTest(name):
                self.assertEqual(getattr(errors, name).__module__, "presshouse.errors")

    def test_plain_ones_can_be_raised_with_words(self):
        for name in NAMES:
            if name not in ("BadItems", "BadStream"):
                with self.subTest(name), self.assertRaisesRegex(PressError, "these words"):
                    raise getattr(errors, name)("these words")

    def test_items_tell_at(self):
        self.assertEqual(BadItems(3).at, 3)
        self.assertEqual(BadItems(0).at, 0)
        self.assertIsNone(BadItems(None).at)

    def test_stream_tells_bit(self):
        self.assertEqual(BadStream(17).bit, 17)
        self.assertEqual(BadStream(0).bit, 0)


if __name__ == "__main__":
    unittest.main()
