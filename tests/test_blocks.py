"""Blocks: the three ways, against an own writing of all of them."""

import itertools
import random
import time
import types
import unittest

from drawn import some_bytes
from presshouse.blocks import block, ways
from presshouse.errors import BadBytes
from test_least import own_least
from test_words import lengths_by_point_3, words_by_point_2

OWN_TOLD = ([8] * 239 + [9] * 34, [4] * 6 + [3] * 5)
NO_BYTES = [None, True, False, 1, "", "ab", [], [97], (97,), {}, {97: 1}, bytearray(b"ab"), memoryview(b"ab"), bytes]


def own_row(data, lengths, ahead):
    """The least row by these lengths of letters and of backs."""
    prices = types.SimpleNamespace(letters=lambda: lengths[0], backs=lambda: lengths[1])
    row, _ = own_least(data, prices, ahead)
    return row


def own_letter(item):
    return item if isinstance(item, int) else 254 + item[0]


def own_row_text(row, lengths):
    """The words of a row, and that of the end."""
    letters, backs = (words_by_point_2(told) for told in lengths)
    text = ""
    for item in row:
        text += letters[own_letter(item)]
        if not isinstance(item, int):
            c = [c for c in range(11) if 2 ** c <= item[1] < 2 ** (c + 1)][0]
            text += backs[c] + (format(item[1] - 2 ** c, "b").zfill(c) if c > 0 else "")
    return text + letters[256]


def own_lengths(row):
    """The least lengths by how often letters and backs are used."""
    used = [own_letter(item) for item in row] + [256]
    backs = [len(bin(item[1])) - 3 for item in row if not isinstance(item, int)]
    letters = lengths_by_point_3([used.count(letter) for letter in range(273)], 12)
    return letters, lengths_by_point_3([backs.count(c) for c in range(11)], 6) if backs else [0] * 11


def own_runs(numbers):
    """Pairs of a number and how many of it, at most 32."""
    runs = []
    for number, found in itertools.groupby(numbers):
        many = len(list(found))
        runs += [(number, 32)] * (many // 32) + [(number, many % 32)] * (many % 32 > 0)
    return runs


def own_runs_text(runs):
    return "".join(format(number, "04b") + format(many - 1, "05b") for number, many in runs)


def own_texts(data, ahead):
    """The bits of all three ways."""
    plain = "00" + format(len(data), "011b") + "".join(format(byte, "08b") for byte in data)
    row = own_row(data, OWN_TOLD, ahead)
    lengths = own_lengths(row)
    own = "10" + own_runs_text(own_runs(lengths[0] + lengths[1])) + own_row_text(own_row(data, lengths, ahead), lengths)
    return [plain, "01" + own_row_text(row, OWN_TOLD), own]


def phrases(chance, many, kinds=40):
    """Bytes like those of a text: words again and again."""
    told_words = [some_bytes(chance, chance.randrange(2, 9), 26) for _ in range(kinds)]
    made = b""
    while len(made) < many:
        made += chance.choice(told_words) + b" "
    return made[:many]


class TestBlocks(unittest.TestCase):
    def check(self, data, ahead=b"", sort=None):
        texts = own_texts(data, ahead)
        sizes = [len(text) for text in texts]
        self.assertEqual(ways(data, ahead=ahead), tuple(sizes))
        least = sizes.index(min(sizes))
        self.assertEqual(block(data, ahead=ahead), (least, texts[least]))
        if sort is not None:
            self.assertEqual(least, sort)
        return texts

    def test_kinds_of_what_is_told(self):
        found = ways(b"abc")
        self.assertIs(type(found), tuple)
        self.assertEqual([type(one) for one in found], [int] * 3)
        found = block(b"abc")
        self.assertIs(type(found), tuple)
        self.assertEqual([type(one) for one in found], [int, str])

    def test_no_bytes(self):
        self.assertEqual(ways(b""), (13, 11, 93))
        self.assertEqual(block(b""), (1, "01" + "111101111"))
        self.assertEqual(ways(b"", ahead=b"abc"), (13, 11, 93))
        self.check(b"", b"abc", 1)

    def test_one_byte(self):
        self.assertEqual(ways(b"a")[:2], (21, 19))
        self.assertEqual(block(b"\x00"), (1, "01" + "00000000" + "111101111"))
        for byte in (0, 97, 238, 239, 255):
            self.check(bytes([byte]), b"", 1)
            self.check(bytes([byte]), bytes([byte]) * 5, 1)

    def test_by_hand(self):
        self.assertEqual(block(b"\xff" * 2), (0, "00" + "00000000010" + "1" * 16))
        # abc, then a copy of 6 from 3 back: c is 1, and 1 more than 2.
        text = "01" + "01100001" + "01100010" + "01100011" + "111110011" + "0111" + "1" + "111101111"
        back_words = words_by_point_2([4] * 6 + [3] * 5)
        self.assertEqual(words_by_point_2(OWN_TOLD[0])[260], "111110011")
        self.assertEqual(block(b"abcabcabc"), (1, text[:-14] + back_words[1] + "1" + "111101111"))

    def test_least_in_each_way(self):
        chance = random.Random(1)
        self.check(bytes(range(256)), b"", 0)
        self.check(chance.randbytes(300), chance.randbytes(40), 0)
        self.check(b"hello", b"", 1)
        self.check(b"abcabcabcabc" * 4, b"", 1)
        self.check(some_bytes(chance, 400, 3), b"", 2)
        self.check(phrases(chance, 500), b"", 2)

    def test_of_several_with_as_many_bits_the_first(self):
        self.assertEqual(ways(b"\xff\xff")[:2], (29, 29))
        self.check(b"\xff\xff", b"", 0)
        for data, first in TIES:
            sizes = [len(text) for text in self.check(data, b"", first)]
            self.assertEqual(sizes.count(min(sizes)), 2)

    def test_rows_without_a_copy(self):
        data = de_bruijn(6)
        texts = self.check(data, b"", 2)
        self.assertEqual(own_row(data, OWN_TOLD, b""), list(data))
        # 16 letters of copies and 11 backs, all 0, are one run.
        self.assertIn("0000" + format(26, "05b"), texts[2])

    def test_runs_of_31_32_33_and_of_64_and_65(self):
        for first in (31, 32, 33, 64, 65):
            row = bytes(byte - 97 + first for byte in de_bruijn(6))
            texts = self.check(row, b"", 2)
            runs = [(0, min(32, first))] + [(0, first - 32)] * (32 < first < 64)
            runs += [(0, 32)] * (first >= 64) + [(0, 1)] * (first == 65)
            self.assertTrue(texts[2].startswith("10" + own_runs_text(runs)), first)

    def test_runs_of_lengths_that_are_not_0(self):
        # 64 bytes with words of one length: two runs of 32.
        data = bytes(range(64)) * 8
        shuffled = list(data)
        random.Random(3).shuffle(shuffled)
        texts = self.check(bytes(shuffled), b"", 2)
        self.assertIn(own_runs_text([(6, 32)]), texts[2])

    def test_runs_that_go_on_from_letters_into_backs(self):
        gone_on = 0
        chance = random.Random(4)
        for many in range(18, 130, 9):
            data = bytes([97]) * many + some_bytes(chance, 2, 5)
            row = own_row(data, OWN_TOLD, b"")
            letters, backs = own_lengths(row)
            gone_on += letters[-1] == backs[0] > 0
            self.check(data)
        self.assertGreater(gone_on, 0)

    def test_bytes_ahead(self):
        chance = random.Random(5)
        for many, further, kinds in ((30, 1, 2), (60, 40, 2), (120, 300, 3), (90, 1100, 4), (50, 4096, 3)):
            self.check(some_bytes(chance, many, kinds), some_bytes(chance, further, kinds))
        ahead = phrases(chance, 700)
        self.check(ahead[200:420], ahead)
        # What stands ahead is copied, and never told.
        self.assertLess(ways(ahead[200:420], ahead=ahead)[1], ways(ahead[200:420])[1])

    def test_what_stands_ahead_is_as_good_as_its_last_1024(self):
        chance = random.Random(6)
        ahead = chance.randbytes(4096)
        data = ahead[4096 - 1024:4096 - 1000] + ahead[4096 - 1025 + 24:4096 - 1000 + 24]
        self.check(data, ahead)
        self.assertEqual(ways(data, ahead=ahead), ways(data, ahead=ahead[-1024:]))
        self.assertNotEqual(ways(data, ahead=ahead), ways(data, ahead=ahead[-1023:]))

    def test_backs_have_words_of_at_most_6(self):
        # Each back's letter is used twice as often as the one ahead of it: without a bound words of 7 would be least.
        chance = random.Random(10)
        ahead, data = chance.randbytes(1100), b""
        letters = [letter for letter in range(3, 11) for _ in range(2 ** max(0, 9 - letter))]
        chance.shuffle(letters)
        for letter in letters:
            whole = ahead + data
            at = len(whole) - chance.randrange(max(9, 2 ** letter), min(1025, 2 ** (letter + 1)))
            data += whole[at:at + 9]
        row = own_row(data, OWN_TOLD, ahead)
        backs = [len(bin(item[1])) - 3 for item in row if not isinstance(item, int)]
        counts = [backs.count(c) for c in range(11)]
        self.assertEqual(max(lengths_by_point_3(counts, 12)), 7)
        self.assertEqual(max(own_lengths(row)[1]), 6)
        self.check(data, ahead)

    def test_backs_at_the_bounds_of_letters(self):
        chance = random.Random(11)
        told_word = bytes(range(200, 212))
        for back in sorted({2 ** c + more for c in range(4, 11) for more in (-1, 0, 1)} | {1022, 1026}):
            between = bytes(chance.randrange(190) for _ in range(back - 12)) if back > 12 else b""
            for near in (b"", told_word[:3], told_word[:5]):
                ahead = told_word + between[:len(between) - len(near)] + near
                if len(ahead) == back:
                    self.check(told_word, ahead)
                    self.check(told_word[:4], b"xyz" + ahead)

    def test_drawn_bytes(self):
        chance = random.Random(7)
        sorts = []
        for many in [0, 1, 2, 3, 5, 9, 20, 60, 120, 200] * 4:
            kinds = chance.choice([1, 2, 3, 5, 26])
            data, ahead = some_bytes(chance, many, kinds), some_bytes(chance, chance.choice([0, 0, 5, 80]), kinds)
            self.check(data, ahead)
            sorts.append(block(data, ahead=ahead)[0])
        self.assertEqual(set(sorts), {1, 2})

    def test_2000_bytes(self):
        chance = random.Random(8)
        self.check(phrases(chance, 2000), phrases(chance, 300), 2)
        data = chance.randbytes(2000)
        self.assertEqual(block(data), (0, "00" + "11111010000" + "".join(format(byte, "08b") for byte in data)))

    def test_2000_and_4096_end_soon(self):
        chance = random.Random(9)
        for data in (b"a" * 2000, some_bytes(chance, 2000, 2), phrases(chance, 2000), chance.randbytes(2000)):
            begun = time.perf_counter()
            sizes, found = ways(data, ahead=(data * 3)[:4096]), block(data, ahead=(data * 3)[:4096])
            self.assertLess(time.perf_counter() - begun, 5)
            self.assertEqual(len(found[1]), min(sizes))

    def test_how_much_is_taken(self):
        for told in (ways, block):
            told(b"a" * 2000, ahead=b"a" * 4096)
            for data, ahead in ((b"a" * 2001, b""), (b"a" * 2001, b"a" * 4097), (b"", b"a" * 4097), (b"a" * 9000, b"")):
                with self.assertRaises(BadBytes):
                    told(data, ahead=ahead)

    def test_what_is_no_bytes(self):
        for told in (ways, block):
            for none in NO_BYTES:
                with self.assertRaises(BadBytes):
                    told(none)
                with self.assertRaises(BadBytes):
                    told(b"a", ahead=none)

    def test_what_stands_ahead_goes_by_its_name(self):
        for told in (ways, block):
            with self.assertRaises(TypeError):
                told(b"a", b"b")


def de_bruijn(kinds):
    """Each three of so many letters stand side by side but once, so that nothing can be copied."""
    row, seen = [97, 97], set()
    while True:
        letters = [letter for letter in range(97, 97 + kinds) if (row[-2], row[-1], letter) not in seen]
        if not letters:
            return bytes(row)
        row.append(max(letters))
        seen.add(tuple(row[-3:]))


# With as few bits in two ways, and the first of these.
TIES = [
    (b"\xf8\xf4\xf4\xf4\xf4\xf4\xf2\xfb\xf8\xf8\xf2\xf2\xf7\xf6\xfb\xfb\xf7\xf4\xf8\xf2\xf6\xf2\xf2\xf2\xf4", 0),
    (b"\xf2\xf6\xf0\xf0\xf3\xf3\xf0\xf6\xf5\xf5\xf2\xf6\xf5\xf0\xf6\xf6\xf3\xf6\xf0\xf6\xf3\xf3\xf6\xf6\xf3\xf3\xf5\xf3\xf5", 0),
    (b"deccedfceeecffecdfcffcdeffffce", 1),
]


if __name__ == "__main__":
    unittest.main()
