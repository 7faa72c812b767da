"""Bytes as texts of signs, there and back."""

import unittest

from presshouse.errors import BadBytes, BadHex
from presshouse.kinds import hex_of, of_hex


class TestOfHex(unittest.TestCase):
    def test_ordinary(self):
        self.assertEqual(of_hex("00ff10a9"), b"\x00\xff\x10\xa9")
        self.assertIs(bytes, type(of_hex("0f")))

    def test_empty(self):
        self.assertEqual(of_hex(""), b"")

    def test_odd_count(self):
        for text in ("0", "abc", "00000"):
            with self.subTest(text), self.assertRaises(BadHex):
                of_hex(text)

    def test_capital_letters(self):
        for text in ("FF", "aB", "Ab", "00A0"):
            with self.subTest(text), self.assertRaises(BadHex):
                of_hex(text)

    def test_other_signs(self):
        texts = ["0g", "0x", "0x00", "00 1", " 00 ", "00 11", "0\n", "00\n\n", "-1", "+1", "1_0f",
                 "\u0661\u0662", "\uff10\uff10", "\u00e9a", "\ud800\ud800", "\x00\x00", "`a", "/0", "0:"]
        for text in texts:
            with self.subTest(ascii(text)), self.assertRaises(BadHex):
                of_hex(text)

    def test_other_kinds(self):
        for told in (None, True, False, 0, 12, b"", b"00", bytearray(b"00"), [], ["0", "0"], ("a", "b"), {}, {"a", "b"},
                     object(), len, str):
            with self.subTest(repr(told)), self.assertRaises(BadHex):
                of_hex(told)


class TestHexOf(unittest.TestCase):
    def test_ordinary(self):
        self.assertEqual(hex_of(b"\x00\xff\x10\xa9"), "00ff10a9")

    def test_none(self):
        self.assertEqual(hex_of(b""), "")

    def test_there_and_back(self):
        told = bytes(range(256))
        self.assertEqual(of_hex(hex_of(told)), told)
        text = "".join(a + b for a in "0123456789abcdef" for b in "0123456789abcdef")
        self.assertEqual(of_hex(text), told)
        self.assertEqual(hex_of(of_hex(text)), text)

    def test_other_kinds(self):
        for told in (None, True, False, 0, 12, "", "00", bytearray(b"0"), memoryview(b"0"), [], [1, 2], (1,), {}, {1},
                     object(), len, bytes):
            with self.subTest(repr(told)), self.assertRaises(BadBytes):
                hex_of(told)


if __name__ == "__main__":
    unittest.main()
