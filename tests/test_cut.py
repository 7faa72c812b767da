"""The least cutting into blocks, and the streams of it."""

import random
import time
import unittest

from drawn import some_bytes
from presshouse.blocks import block
from presshouse.errors import BadBytes, BadStep
from presshouse.streams import cut, opened, pressed
from test_blocks import NO_BYTES, own_texts, phrases

NO_STEPS = [None, True, False, "", "256", b"256", [], [256], (256,), {}, {256: 1}, int, 0, 1, -1, -256, 15, 2001, 10 ** 30]

# Several cuttings by steps of 16 have as few bits: the ends of each, the one that is told first of all.
TIES = [
    (b'^\x96k\\\x15/\xbc\x8c\x84\xfay1\x9d2Lfaccddcdcaaacbabdaaababbbbbaabaaaddbdccdadbacab',
     [[62], [16, 62]]),
    (b'aaabaaabaaaababa\xee\xf1\xed'
     b'\xf3\xef\xee\xf3\xf3\xf0\xf4\xf4\xf1\xef\xf2\xf2\xf3\x9bNh\x99\xbf\xef\xaa',
     [[39], [16, 39]]),
    (b'ddabadacbdcdbcdababbbbababaaababadbbddbdadcacdadc',
     [[49], [48, 49]]),
    (b'abaaabbabbaaabbadccdcdddacbc'
     b'bdbb\xf2\xf4\xf0\xf1\xf1\xec\xef\xf0\xf3\xec\xef\xf1\xf0\xf0\xef\xed;\x84\x1d\x18r\xf3\xa2}>',
     [[57], [16, 57], [32, 57]]),
    (b'abaabaaaabbbaaaa\xf4\xf4\xed\xec\xed\xf1\xf1\xf2\xf2\xee'
     b'\xf3\xf2\xf2\xf4\xf1\xf4\xef\xec\xf1\xec\xf2\xf4\xee\xef\xf4\xf0\xf1\xf2\xf1\xf2\xec\xf3fa\x122',
     [[16, 52], [16, 48, 52]]),
]


def own_cuttings(start, many, step):
    """The ends of each cutting from a place on."""
    if start == many > 0:
        return [[]]
    found = []
    for end in sorted({*range(start + step, many, step), many}):
        if end - start <= 2000:
            found += [[end] + behind for behind in (own_cuttings(end, many, step) if many else [[]])]
    return found


class OwnBlocks:
    """Blocks by what `block` tells, each but once."""

    def __init__(self, data, ahead):
        self.data, self.ahead, self.texts = data, ahead, {}

    def text(self, start, end):
        if (start, end) not in self.texts:
            ahead = (self.ahead + self.data[:start])[-4096:]
            self.texts[start, end] = block(self.data[start:end], ahead=ahead)[1]
        return self.texts[start, end]

    def bits(self, start, ends):
        return sum(1 + len(self.text(one, end)) for one, end in zip([start] + ends, ends))


def own_cut(data, step, ahead):
    """The ends that are told, the costs, and all cuttings with as few bits."""
    blocks, costs = OwnBlocks(data, ahead), []
    for start in reversed(range(0, max(1, len(data)), step)):
        found = own_cuttings(start, len(data), step)
        costs.insert(0, min(blocks.bits(start, ends) for ends in found))
    least = [ends for ends in found if blocks.bits(0, ends) == costs[0]]
    return max(least), costs, least


def own_stream(data, ends, ahead):
    """The blocks that end there, written one behind the other."""
    blocks, text = OwnBlocks(data, ahead), ""
    for start, end in zip([0] + ends, ends):
        text += str(int(end == len(data))) + blocks.text(start, end)
    text += "0" * (-len(text) % 8)
    return int(text, 2).to_bytes(len(text) // 8, "big")


def unlike_parts(chance, many, size):
    """Parts that are unlike one another, of so many bytes."""
    made = b""
    for _ in range(many):
        kind = chance.randrange(4)
        if kind == 0:
            made += chance.randbytes(size)
        elif kind == 1:
            made += some_bytes(chance, size, 4)
        elif kind == 2:
            made += bytes(chance.choices(range(236, 245), k=size))
        else:
            made += phrases(chance, size, 5)
    return made


class TestCut(unittest.TestCase):
    def check(self, data, step, ahead=b""):
        ends, costs, least = own_cut(data, step, ahead)
        found = cut(data, step, ahead=ahead)
        self.assertEqual(found, (ends, costs))
        self.assertEqual([type(one) for one in (found, *found)], [tuple, list, list])
        stream = pressed(data, step=step, ahead=ahead)
        self.assertIs(type(stream), bytes)
        self.assertEqual(stream, own_stream(data, ends, ahead))
        self.assertEqual(len(stream), (costs[0] + 7) // 8)
        self.assertEqual(opened(stream, ahead=ahead), data)
        return ends, least

    def test_no_bytes(self):
        for step in (16, 256, 2000):
            for ahead in (b"", b"abc" * 9):
                self.assertEqual(cut(b"", step, ahead=ahead), ([0], [12]))
                self.assertEqual(pressed(b"", step=step, ahead=ahead), bytes([0b10111110, 0b11110000]))
                self.assertEqual(opened(pressed(b"", step=step, ahead=ahead)), b"")

    def test_one_block(self):
        chance = random.Random(1)
        for data in (b"a", b"ab", b"a" * 16, chance.randbytes(16)):
            self.assertEqual(self.check(data, 16)[0], [len(data)])
            text = "1" + own_texts(data, b"")[block(data)[0]]
            self.assertEqual(cut(data, 16), ([len(data)], [len(text)]))

    def test_unlike_parts(self):
        chance = random.Random(2)
        many_blocks = 0
        for many, size in ((2, 16), (3, 16), (4, 16), (5, 40), (6, 64), (7, 48)):
            for _ in range(4):
                data = unlike_parts(chance, many, size)
                data = data[:len(data) - chance.randrange(size)]
                step = chance.choice([size, size, max(16, size - 7)])
                ahead = some_bytes(chance, chance.choice([0, 50, 1500]), 4)
                many_blocks += len(self.check(data, step, ahead)[0]) > 1
        self.assertGreater(many_blocks, 5)

    def test_copies_from_blocks_ahead(self):
        chance = random.Random(3)
        first, second = chance.randbytes(100), some_bytes(chance, 300, 3)
        data = first + second + first + second
        ends, _ = self.check(data, 100)
        self.assertGreater(len(ends), 1)
        self.assertLess(cut(data, 100)[1][0], 13 + 8 * 300)
        self.check(data, 100, second)

    def test_of_several_the_first_block_is_longest_then_the_second(self):
        for data, least in TIES:
            found, all_least = self.check(data, 16)
            self.assertEqual(found, least[0])
            self.assertEqual(sorted(all_least), sorted(least))

    def test_costs_for_each_place_that_the_step_divides(self):
        data = bytes(range(100, 164))
        for many, step, count in ((1, 16, 1), (16, 16, 1), (17, 16, 2), (32, 16, 2), (33, 16, 3), (64, 17, 4), (64, 2000, 1)):
            ends, costs = cut(data[:many], step)
            self.assertEqual(len(costs), count)
            self.assertEqual(ends[-1], many)
            self.check(data[:many], step)

    def test_each_place_is_the_least_from_there_behind_what_stands_ahead(self):
        data = unlike_parts(random.Random(4), 5, 32)
        _, costs = cut(data, 32)
        for count, bits in enumerate(costs):
            self.assertEqual(cut(data[32 * count:], 32, ahead=data[:32 * count])[1], costs[count:])

    def test_blocks_of_at_most_2000_bytes(self):
        chance = random.Random(5)
        for many, step in ((2000, 2000), (2001, 2000), (4000, 2000), (3000, 1000), (3999, 1999), (4000, 1500), (2600, 650)):
            ends, _ = self.check(phrases(chance, many), step)
            self.assertTrue(all(end - start <= 2000 for start, end in zip([0] + ends, ends)))
        self.assertEqual(cut(bytes(range(256)) * 8, 1024)[0], [1024, 2048])
        self.assertEqual(cut(b"a" * 2000, 2000)[0], [2000])
        self.assertEqual(cut(b"a" * 4000, 2000)[0], [2000, 4000])
        self.assertEqual(cut(b"a" * 2001, 2000)[0], [2000, 2001])

    def test_steps_up_to_32_blocks(self):
        for step in (16, 17, 100, 125):
            ends, costs = cut(b"a" * (32 * step), step)
            self.assertEqual(len(costs), 32)
            with self.assertRaises(BadStep):
                cut(b"a" * (32 * step + 1), step) if step < 125 else cut(b"a" * 4000, 124)
            with self.assertRaises(BadStep):
                pressed(b"a" * (32 * step + 1), step=step) if step < 125 else pressed(b"a" * 4000, step=124)

    def test_what_is_no_step(self):
        for none in NO_STEPS:
            with self.assertRaises(BadStep):
                cut(b"", none)
            with self.assertRaises(BadStep):
                cut(b"abc", none, ahead=b"a")
            with self.assertRaises(BadStep):
                pressed(b"abc", step=none)
        for step in (16, 2000):
            cut(b"abc", step)
            pressed(b"abc", step=step)

    def test_what_is_no_bytes_is_told_ahead_of_the_step(self):
        for none in NO_BYTES + [b"a" * 4001, b"a" * 9000]:
            for step in (256, 15, None):
                with self.assertRaises(BadBytes):
                    cut(none, step)
                with self.assertRaises(BadBytes):
                    pressed(none, step=step)
        for none in NO_BYTES + [b"a" * 4097]:
            for step in (256, 15, None):
                with self.assertRaises(BadBytes):
                    cut(b"a", step, ahead=none)
                with self.assertRaises(BadBytes):
                    pressed(b"a", ahead=none, step=step)
        with self.assertRaises(BadBytes):
            pressed(b"a" * 4001)

    def test_what_stands_behind_the_star(self):
        data = unlike_parts(random.Random(6), 3, 200)
        self.assertEqual(pressed(data), pressed(data, ahead=b"", step=256))
        self.assertEqual(pressed(data, ahead=b"abcd"), pressed(data, step=256, ahead=b"abcd"))
        self.assertEqual(pressed(data, step=100), pressed(data, ahead=b"", step=100))
        self.assertNotEqual(pressed(data, step=100), pressed(data))
        with self.assertRaises(TypeError):
            pressed(data, 256)
        with self.assertRaises(TypeError):
            cut(data, 256, b"")
        self.assertEqual(cut(step=100, data=data), cut(data, 100))

    def test_what_is_told_is_new(self):
        data = unlike_parts(random.Random(7), 3, 32)
        ends, costs = cut(data, 32)
        kept = list(ends), list(costs)
        ends.clear()
        costs.append(7)
        self.assertEqual(cut(data, 32), kept)

    def test_the_greatest_end_soon(self):
        chance = random.Random(8)
        for data in (b"a" * 4000, some_bytes(chance, 4000, 2), phrases(chance, 4000), chance.randbytes(4000)):
            ahead = (data + data)[-4096:]
            for step in (125, 256):
                begun = time.perf_counter()
                ends, costs = cut(data, step, ahead=ahead)
                self.assertLess(time.perf_counter() - begun, 8)
            begun = time.perf_counter()
            stream = pressed(data, ahead=ahead)
            self.assertEqual(len(stream), (costs[0] + 7) // 8)
            self.assertEqual(opened(stream, ahead=ahead), data)
            self.assertLess(time.perf_counter() - begun, 8)


if __name__ == "__main__":
    unittest.main()
