"""Streams read whole and in pieces, against an own reading bit by bit."""

import functools
import random
import time
import unittest

from drawn import good_lengths, some_bytes
from presshouse.errors import BadBytes, BadStream
from presshouse.streams import Reader, opened, pressed
from test_blocks import NO_BYTES, OWN_TOLD, own_lengths, own_row, own_row_text, own_runs, own_runs_text, phrases
from test_words import words_by_point_2

# Two letters alone, a and the end, and no backs; the same with a copy of 3 and one back.
A_ALONE = ([0] * 97 + [1] + [0] * 158 + [1] + [0] * 16, [0] * 11)
A_AND_COPIES = ([0] * 97 + [1] + [0] * 158 + [2, 2] + [0] * 15, [1] + [0] * 10)


class OwnSlip(Exception):
    pass


class OwnReading:
    """Bits one by one: a generator asks for each."""

    def __init__(self, ahead):
        self.whole, self.count, self.over = list(ahead), 0, False
        self.steps = self.blocks()
        next(self.steps)

    def bit(self, told):
        self.count += 1
        self.steps.send(told)

    def blocks(self):
        last = 0
        while not last:
            last = yield
            sort = 2 * (yield)
            sort += yield
            if sort == 3:
                raise OwnSlip
            yield from (self.plain, self.told, self.own)[sort]()
        while self.count % 8:
            if (yield):
                raise OwnSlip
        self.over = True
        yield
        raise OwnSlip

    def number(self, many):
        found = 0
        for _ in range(many):
            found = 2 * found + (yield)
        return found

    def plain(self):
        count = yield from self.number(11)
        if count > 2000:
            raise OwnSlip
        for _ in range(count):
            self.whole.append((yield from self.number(8)))

    def told(self):
        yield from self.row(*OWN_TOLD)

    def own(self):
        lengths = []
        while len(lengths) < 284:
            length = yield from self.number(4)
            if length > 12:
                raise OwnSlip
            lengths += [length] * (1 + (yield from self.number(5)))
            if len(lengths) > 284:
                raise OwnSlip
        letters, backs = lengths[:273], lengths[273:]
        if letters[256] == 0 or not own_good(letters) or not own_good(backs):
            raise OwnSlip
        yield from self.row(letters, backs)

    def letter(self, tree):
        while isinstance(tree, dict):
            tree = tree.get((yield))
            if tree is None:
                raise OwnSlip
        return tree

    def row(self, letters, backs):
        letters, backs, begun = own_tree(tuple(letters)), own_tree(tuple(backs)), len(self.whole)
        while True:
            letter = yield from self.letter(letters)
            if letter == 256:
                return
            if letter < 256:
                made = [letter]
            else:
                c = yield from self.letter(backs)
                back = 2 ** c + (yield from self.number(c))
                if back > min(1024, len(self.whole)):
                    raise OwnSlip
                made = (self.whole[len(self.whole) - back:] * 18)[:letter - 254]
            if len(self.whole) + len(made) - begun > 2000:
                raise OwnSlip
            self.whole += made


@functools.lru_cache(None)
def own_tree(lengths):
    """Words as dicts within dicts, by bits, down to the letters."""
    tree = {}
    for letter, word in words_by_point_2(lengths).items():
        at = tree
        for sign in word[:-1]:
            at = at.setdefault(int(sign), {})
        at[int(word[-1])] = letter
    return tree


def own_good(lengths):
    used = [length for length in lengths if length]
    return not used or used == [1] or (len(used) > 1 and sum(4096 >> length for length in used) == 4096)


def bits_in(stream):
    return "".join(format(byte, "08b") for byte in stream)


class OwnCourse:
    """What an own reading tells at each bit: how many bytes are known, where it slips, where it is over."""

    def __init__(self, stream, ahead):
        reading = OwnReading(ahead)
        self.counts, self.slip, self.over = [0], None, None
        for at, sign in enumerate(bits_in(stream)):
            try:
                reading.bit(int(sign))
            except OwnSlip:
                self.slip = at
                break
            self.counts.append(len(reading.whole) - len(ahead))
            if reading.over and self.over is None:
                self.over = at + 1
        self.known = bytes(reading.whole[len(ahead):])


def stream_of(text):
    text += "0" * (-len(text) % 8)
    return bytes(int(text[at:at + 8], 2) for at in range(0, len(text), 8))


def plain_text(data, count=None):
    return "00" + format(len(data) if count is None else count, "011b") + bits_in(data)


def told_text(row):
    return "01" + own_row_text(row, OWN_TOLD)


def own_text(row, lengths, runs=None):
    return "10" + own_runs_text(runs or own_runs(lengths[0] + lengths[1])) + own_row_text(row, lengths)


def with_lasts(texts):
    """Blocks one behind the other, each behind the bit that tells whether it is the last one."""
    return "".join("0" + text for text in texts[:-1]) + "1" + texts[-1]


def drawn_runs(chance, numbers):
    """Runs cut at will."""
    runs = []
    for number, many in own_runs(numbers):
        while many > 0:
            part = chance.randint(1, many)
            runs.append((number, part))
            many -= part
    return runs


def drawn_row(chance, there, letters, backs, most=2000):
    """A row of items that have words, whatever they cost."""
    bytes_told = [letter for letter in range(256) if letters[letter]]
    copies = [letter - 254 for letter in range(257, 273) if letters[letter]]
    row, made = [], 0
    for _ in range(chance.randrange(40)):
        told_backs = [back for back in range(1, min(1024, there + made) + 1) if backs[len(bin(back)) - 3]]
        if copies and told_backs and chance.random() < 0.5:
            row.append((chance.choice(copies), chance.choice(told_backs)))
            made += row[-1][0]
        elif bytes_told:
            row.append(chance.choice(bytes_told))
            made += 1
    return row


def drawn_text(chance, there):
    """The bits of a block of any way, and how many bytes it has."""
    sort = chance.randrange(3)
    if sort == 0:
        data = chance.randbytes(chance.randrange(30))
        return plain_text(data), len(data)
    if sort == 1:
        row = drawn_row(chance, there, *OWN_TOLD)
        return told_text(row), sum(1 if isinstance(item, int) else item[0] for item in row)
    letters = good_lengths(chance, 273, chance.choice([1, 2, 3, 9, 40, 273]))
    at = [letter for letter in range(273) if letters[letter]][0]
    letters[at], letters[256] = letters[256], letters[at]
    backs = good_lengths(chance, 11, chance.choice([0, 1, 2, 5, 11]))
    row = drawn_row(chance, there, letters, backs)
    runs = drawn_runs(chance, letters + backs)
    return own_text(row, (letters, backs), runs), sum(1 if isinstance(item, int) else item[0] for item in row)


def drawn_stream(chance, further):
    texts, there = [], further
    for _ in range(chance.randrange(1, 5)):
        text, many = drawn_text(chance, there)
        texts.append(text)
        there += many
    return stream_of(with_lasts(texts))


class TestReading(unittest.TestCase):
    def check(self, stream, ahead=b"", sizes=(1, 3, 1000)):
        """Whole and in pieces as by the own reading, which is told."""
        course = OwnCourse(stream, ahead)
        if course.slip is None and course.over is not None:
            self.assertEqual(opened(stream, ahead=ahead), course.known)
        else:
            with self.assertRaises(BadStream) as caught:
                opened(stream, ahead=ahead)
            self.assertEqual(caught.exception.bit, 8 * len(stream) if course.slip is None else course.slip)
            self.assertIs(type(caught.exception.bit), int)
        for size in sizes:
            self.hear([stream[at:at + size] for at in range(0, len(stream), size)], course, ahead)
        return course

    def hear(self, pieces, course, ahead):
        reader, heard = Reader(ahead=ahead), 0
        for piece in pieces:
            before = min(8 * heard, len(course.counts) - 1)
            heard += len(piece)
            after = min(8 * heard, len(course.counts) - 1)
            if course.slip is not None and course.slip < 8 * heard:
                with self.assertRaises(BadStream) as caught:
                    reader.hear(piece)
                self.assertEqual(caught.exception.bit, course.slip)
                self.assertEqual(reader.bits(), course.slip)
            else:
                told = reader.hear(piece)
                self.assertEqual((told, type(told)), (course.counts[after] - course.counts[before], int))
                self.assertEqual(reader.bits(), 8 * heard)
            self.assertEqual(reader.known(), course.known[:course.counts[after]])
            self.assertIs(reader.is_over(), course.over is not None and course.over <= 8 * heard)

    def slips(self, text, bit, ahead=b"", known=None, sizes=(1, 3, 1000)):
        """Bits, with all kinds of bits behind them, slip at one bit, and not ahead of it."""
        self.assertLess(bit, len(text))
        for rest in ("", "0" * 24, "1" * 24, "01" * 12):
            stream = stream_of(text + rest)
            course = self.check(stream, ahead, sizes)
            self.assertEqual(course.slip, bit)
            if known is not None:
                self.assertEqual(course.known, known)

    def tells(self, text, data, ahead=b""):
        course = self.check(stream_of(text), ahead)
        self.assertEqual((course.known, course.slip), (data, None))
        self.assertIsNotNone(course.over)

    def test_kinds_of_what_is_told(self):
        reader = Reader()
        self.assertEqual((reader.known(), reader.bits(), reader.is_over()), (b"", 0, False))
        self.assertEqual([type(one) for one in (reader.known(), reader.bits(), reader.is_over())], [bytes, int, bool])
        self.assertIs(type(opened(pressed(b"abc"))), bytes)
        for name in ("hear", "known", "is_over", "bits"):
            self.assertIn(name, vars(Reader))

    def test_each_way_by_hand(self):
        self.tells("1" + plain_text(b""), b"")
        self.tells("1" + plain_text(b"hello"), b"hello")
        self.tells("1" + plain_text(b"a" * 2000), b"a" * 2000)
        self.tells("1" + told_text([]), b"")
        self.tells("1" + told_text([97, 98, (5, 2), 255]), b"abababa\xff")
        self.tells("1" + own_text([], A_ALONE), b"")
        self.tells("1" + own_text([97] * 5, A_ALONE), b"aaaaa")
        self.tells("1" + own_text([97, (3, 1), 97], A_AND_COPIES), b"aaaaa")

    def test_the_end_alone_has_a_word(self):
        lengths = ([0] * 256 + [1] + [0] * 16, [0] * 11)
        self.tells("1" + own_text([], lengths), b"")
        text = "1" + own_text([], lengths)
        self.slips(text[:-1] + "1", len(text) - 1)
        text = "0" + plain_text(b"xy") + text
        self.slips(text[:-1] + "1", len(text) - 1, b"", b"xy")

    def test_rows_that_are_not_least(self):
        self.tells("1" + plain_text(b"aaaaaaaaaaaaaaaaaaaaaaaaaaa"), b"a" * 27)
        self.tells("1" + told_text([97] * 9), b"a" * 9)
        self.tells("1" + told_text([97, 98, 97, 98, (3, 4), (3, 6), (4, 2)]), b"abab" + b"aba" + b"bab" + b"abab")
        lengths = ([0] * 256 + [12] + [0] * 4 + list(range(1, 13)), [0] * 10 + [1])
        ahead = bytes(range(256)) * 4
        self.tells("1" + own_text([(7, 1024), (8, 1024)], lengths), ahead[:15], ahead)

    def test_words_longer_than_those_that_are_written(self):
        letters = [0] * 256 + [1] + [1] + [0] * 15
        backs = [10, 10, 9, 8, 7, 6, 5, 4, 3, 2, 1]
        self.tells("1" + own_text([(3, 1)], (letters, backs)), b"aaa", b"a")
        letters = [0] * 244 + [1, 2, 3, 4, 5, 6, 7, 8, 9, 10, 11, 0, 12, 12] + [0] * 15
        self.tells("1" + own_text([(3, 1), 244, (3, 1)], (letters, backs)), b"aaa" + b"\xf4" * 4, b"a")

    def test_runs_cut_at_will(self):
        chance = random.Random(1)
        for lengths in (A_ALONE, A_AND_COPIES, own_lengths(list(b"hello, hello") + [(4, 7)])):
            row = [97, 97] if lengths[0][97] else [104, 101, (4, 7)]
            ahead = b"" if lengths[0][97] else b"abcdefgh"
            data = b"aa" if lengths[0][97] else b"he" + b"defg"
            for _ in range(10):
                runs = drawn_runs(chance, lengths[0] + lengths[1])
                self.tells("1" + own_text(row, lengths, runs), data, ahead)
            self.tells("1" + own_text(row, lengths, [(number, 1) for number in lengths[0] + lengths[1]]), data, ahead)

    def test_copies_into_blocks_ahead_and_into_what_stands_ahead(self):
        texts = [plain_text(b"abc"), told_text([(3, 3), (4, 8)]), own_text([(3, 1)], A_AND_COPIES), told_text([(18, 13)])]
        whole = bytearray(b"xyabcabc")
        for many, back in ((4, 8), (3, 1), (18, 13)):
            for _ in range(many):
                whole.append(whole[-back])
        self.tells(with_lasts(texts), bytes(whole[2:]), b"xy")

    def test_blocks_of_no_bytes(self):
        texts = [plain_text(b""), told_text([]), own_text([], A_ALONE), plain_text(b""), told_text([])]
        self.tells(with_lasts(texts), b"")
        self.tells(with_lasts(texts + [plain_text(b"a"), plain_text(b"")]), b"a")

    def test_ends_at_each_bit_of_a_byte(self):
        rests = set()
        for many in range(20):
            text = "1" + told_text([97] * 3 + [255] * many)
            rests.add(len(text) % 8)
            self.tells(text, b"aaa" + b"\xff" * many)
            self.slips(text + "0" * (-len(text) % 8) + "0", len(text) + -len(text) % 8)
        self.assertEqual(rests, set(range(8)))

    def test_pressed_streams_in_pieces_of_every_size(self):
        chance = random.Random(2)
        for data, ahead in ((b"", b""), (b"a", b"abc"), (phrases(chance, 700), b""), (some_bytes(chance, 300, 2), b"ab" * 50)):
            stream = pressed(data, step=100, ahead=ahead)
            course = self.check(stream, ahead, range(1, len(stream) + 2))
            self.assertEqual((course.known, course.slip, course.over), (data, None, 8 * len(stream)))

    def test_drawn_streams(self):
        chance = random.Random(3)
        for _ in range(250):
            ahead = some_bytes(chance, chance.choice([0, 1, 10, 1100]), 3)
            stream = drawn_stream(chance, len(ahead))
            course = self.check(stream, ahead, (1, 7))
            self.assertEqual((course.slip, course.over), (None, 8 * len(stream)))

    def test_drawn_streams_with_bits_otherwise(self):
        chance = random.Random(4)
        slips = 0
        for _ in range(500):
            ahead = some_bytes(chance, chance.choice([0, 1, 10, 1100]), 3)
            text = bits_in(drawn_stream(chance, len(ahead)))
            for _ in range(chance.choice([1, 1, 2, 5])):
                at = chance.randrange(len(text))
                deed = chance.randrange(3)
                text = text[:at] + ("" if deed == 0 else chance.choice("01")) + text[at + (deed < 2):]
            course = self.check(stream_of(text), ahead, (1, chance.randint(2, 40)))
            slips += course.slip is not None
        self.assertGreater(slips, 250)

    def test_pieces_cut_at_will_with_empty_ones_among_them(self):
        chance = random.Random(5)
        for _ in range(60):
            stream = drawn_stream(chance, 5) + chance.choice([b"", b"\x00", b"\xff", b"abc"])
            if chance.random() < 0.5:
                stream = stream[:chance.randrange(len(stream) + 1)]
            pieces, at = [b""], 0
            while at < len(stream):
                size = chance.choice([0, 0, 1, 2, 9, 40])
                pieces.append(stream[at:at + size])
                at += size
            self.hear(pieces + [b"", b""], OwnCourse(stream, b"abcde"), b"abcde")

    def test_a_sort_of_3(self):
        self.slips("111", 2)
        self.slips("011", 2)
        self.slips("0" + plain_text(b"xyz") + "011", 40, b"", b"xyz")

    def test_plain_counts_above_2000(self):
        for count in (2001, 2002, 2047):
            self.slips("1" + plain_text(b"", count), 13)
        self.slips("0" + told_text([97]) + "0" + plain_text(b"", 2001), 20 + 13, b"", b"a")

    def test_lengths_above_12(self):
        head = "110" + own_runs_text([(0, 32), (12, 1)])
        for length in (13, 14, 15):
            self.slips("110" + format(length, "04b"), 6)
            self.slips(head + format(length, "04b"), len(head) + 3)
        self.assertIsNone(OwnCourse(stream_of(head), b"").slip)

    def test_runs_of_more_than_284(self):
        head = "110" + own_runs_text([(0, 32)] * 8)
        for many in (29, 30, 32):
            self.slips(head + own_runs_text([(0, many)]), len(head) + 8)
        # 284 without the end's word slip at the same bit.
        self.slips(head + own_runs_text([(0, 28)]), len(head) + 8)
        numbers = A_ALONE[0] + A_ALONE[1]
        self.slips("110" + own_runs_text(own_runs(numbers)[:-1] + [(0, 28)]), 3 + 9 * len(own_runs(numbers)) - 1)

    def test_lengths_that_are_not_good(self):
        good = A_AND_COPIES
        bad_letters = [
            [0] * 256 + [2] + [0] * 16, [0] * 255 + [1, 2] + [0] * 16, [0] * 254 + [1, 1, 1] + [0] * 16,
            [0] * 256 + [12] + [0] * 16, [1] * 273, [0] * 255 + [1, 12] + [0] * 16,
        ]
        bad_backs = [[2] + [0] * 10, [1, 1, 1] + [0] * 8, [1, 2] + [0] * 9, [0] * 10 + [12], [6] * 11]
        for letters, backs in [(letters, good[1]) for letters in bad_letters] + [(good[0], backs) for backs in bad_backs]:
            text = "110" + own_runs_text(own_runs(letters + backs))
            self.slips(text, len(text) - 1)
        for letters, backs in ((good[0], [0] * 11), (good[0], [0] * 9 + [1, 1]), (good[0], [0, 1] + [0] * 9)):
            text = "110" + own_runs_text(own_runs(letters + backs))
            self.assertIsNone(OwnCourse(stream_of(text), b"").slip)

    def test_the_end_without_a_word(self):
        for letters in ([0] * 273, [1] + [0] * 272, [1, 1] + [0] * 271, [0] * 255 + [1, 0, 1] + [0] * 15):
            text = "110" + own_runs_text(own_runs(letters + [0] * 11))
            self.slips(text, len(text) - 1)

    def test_bits_with_which_no_word_goes_on(self):
        # One letter alone has the word 0; of backs there is none, or one alone.
        text = "1" + own_text([], ([0] * 256 + [1] + [0] * 16, [0] * 11))[:-1]
        self.slips(text + "1", len(text))
        letters = [0] * 97 + [2] + [0] * 158 + [2, 2, 2] + [0] * 14
        told_words = words_by_point_2(letters)
        for backs, signs in (([0] * 11, "01"), ([1] + [0] * 10, "1"), ([0] * 10 + [1], "1")):
            text = "110" + own_runs_text(own_runs(letters + backs)) + told_words[97] * 5 + told_words[257]
            for sign in signs:
                self.slips(text + sign, len(text), b"", b"aaaaa")

    def test_a_stream_that_ends_where_no_word_can_begin_just_is_not_over(self):
        letters = [0] * 97 + [2] + [0] * 158 + [2, 2, 2] + [0] * 14
        told_words = words_by_point_2(letters)
        seen = 0
        for head in ("110", "0" + plain_text(b"x") + "110", "0" + plain_text(b"") + "0" + told_text([239]) + "110"):
            for many in range(4):
                text = head + own_runs_text(own_runs(letters + [0] * 11)) + told_words[97] * many + told_words[257]
                if len(text) % 8 == 0:
                    seen += 1
                    self.assertIsNone(self.check(stream_of(text)).slip)
                    for byte in (0, 255):
                        self.assertEqual(self.check(stream_of(text) + bytes([byte])).slip, len(text))
        self.assertGreater(seen, 0)

    def test_copies_from_farther_than_there_are_bytes(self):
        for there in (0, 1, 2, 3, 5, 30):
            for ahead in (b"", b"abc"):
                row = [97] * there
                for back in (1, 2, 3, 4, 6, 7, 9, 33, 34, 600, 1024):
                    text = "1" + told_text(row + [(3, back)])
                    if back > there + len(ahead):
                        self.slips(text[:-9], len(text) - 10, ahead, b"a" * there)
                    else:
                        self.assertIsNone(self.check(stream_of(text), ahead).slip)

    def test_backs_above_1024(self):
        copy_words, back_words = words_by_point_2(OWN_TOLD[0]), words_by_point_2(OWN_TOLD[1])
        head = "1" + "01" + copy_words[97] + copy_words[257] + back_words[10]
        for further in (1023, 1024, 2000, 4096):
            ahead = bytes(k % 251 for k in range(further))
            self.tells(head + "0" * 10 + copy_words[256], b"a" + (ahead + b"a")[-1024:][:3], ahead)
            for more in (1, 2, 1023):
                self.slips(head + format(more, "010b"), len(head) + 9, ahead, b"a")

    def test_items_by_which_a_block_has_more_than_2000_bytes(self):
        for row, made in (([97] * 2000, 2000), ([97] + [(18, 1)] * 111, 1999), ([97] + [(18, 1)] * 111 + [97], 2000)):
            text = "1" + told_text(row)
            self.tells(text, b"a" * made)
            for item, many in ((97, 1), (240, 1), ((3, 1), 3), ((18, 700), 18)):
                behind = told_text(row + [item])
                if made + many > 2000:
                    self.slips("1" + behind[:-9], len(behind) - 9, b"", b"a" * made, (50,))
        row = [97] + [(18, 1)] * 111
        self.tells("0" + told_text(row) + "1" + told_text(row), b"a" * 3998)
        text = "1" + own_text([97] * 2000, A_ALONE)
        self.tells(text, b"a" * 2000)
        self.slips(text[:-1] + "0", len(text) - 1, b"", b"a" * 2000, (7,))
        copies = "1" + own_text([97] + [(3, 1)] * 667, A_AND_COPIES)
        self.slips(copies[:-2], len(copies) - 3, b"", b"a" * (1 + 666 * 3), (7,))

    def test_a_copy_is_known_at_its_last_bit(self):
        text = "1" + told_text([97, 98, (9, 2)])
        stream = stream_of(text)
        course = OwnCourse(stream, b"")
        self.assertEqual(sorted(set(course.counts)), [0, 1, 2, 11])
        self.check(stream, b"", (1, 2, 3, 4, 5))

    def test_a_plain_byte_is_known_at_its_last_bit(self):
        stream = stream_of("1" + plain_text(b"abcdef"))
        reader, counts = Reader(), []
        for byte in stream:
            counts.append(reader.hear(bytes([byte])))
        self.assertEqual(counts, [0, 0, 1, 1, 1, 1, 1, 1])

    def test_rest_bits_that_are_not_0(self):
        for many in range(6):
            text = "1" + told_text([97] * 3 + [255] * many)
            for at in range(len(text), len(text) + -len(text) % 8):
                signs = list(text + "0" * (-len(text) % 8))
                signs[at] = "1"
                course = self.check(stream_of("".join(signs)) + b"\x00")
                self.assertEqual((course.slip, course.over), (at, None))
                signs[-1] = "1"
                self.assertEqual(self.check(stream_of("".join(signs))).slip, at)

    def test_a_byte_too_many(self):
        for data in (b"", b"abc", b"a" * 50):
            stream = pressed(data)
            for more in (b"\x00", b"\xff", b"\x01", stream):
                course = self.check(stream + more)
                self.assertEqual((course.slip, course.over, course.known), (8 * len(stream), 8 * len(stream), data))

    def test_streams_that_are_not_over(self):
        chance = random.Random(6)
        for data in (b"", b"hello", phrases(chance, 300), chance.randbytes(40)):
            stream = pressed(data, step=50)
            for many in range(len(stream)):
                with self.assertRaises(BadStream) as caught:
                    opened(stream[:many])
                self.assertEqual(caught.exception.bit, 8 * many)
        with self.assertRaises(BadStream) as caught:
            opened(b"")
        self.assertEqual(caught.exception.bit, 0)

    def test_a_slip_is_told_again(self):
        stream = stream_of("0" + plain_text(b"xyz") + "011")
        reader = Reader(ahead=b"never told")
        self.assertEqual(reader.hear(stream[:3]), 1)
        for piece in (stream[3:], b"", b"\x00", pressed(b"abc"), b"", stream):
            with self.assertRaises(BadStream) as caught:
                reader.hear(piece)
            self.assertEqual(caught.exception.bit, 40)
            self.assertEqual((reader.known(), reader.bits(), reader.is_over()), (b"xyz", 40, False))
            for none in NO_BYTES:
                with self.assertRaises(BadBytes):
                    reader.hear(none)

    def test_one_that_was_over_stays_so(self):
        stream = pressed(b"abcabc")
        reader = Reader()
        self.assertEqual(reader.hear(stream), 6)
        self.assertTrue(reader.is_over())
        self.assertEqual((reader.hear(b""), reader.bits(), reader.is_over()), (0, 8 * len(stream), True))
        for _ in range(3):
            with self.assertRaises(BadStream) as caught:
                reader.hear(b"\x00")
            self.assertEqual(caught.exception.bit, 8 * len(stream))
            self.assertEqual((reader.known(), reader.bits(), reader.is_over()), (b"abcabc", 8 * len(stream), True))
        with self.assertRaises(BadStream):
            reader.hear(b"")
        self.assertTrue(reader.is_over())
        reader = Reader()
        with self.assertRaises(BadStream):
            reader.hear(stream + b"\x00")
        self.assertEqual((reader.known(), reader.bits(), reader.is_over()), (b"abcabc", 8 * len(stream), True))

    def test_two_readers_side_by_side(self):
        first, second = pressed(b"abcd" * 20), pressed(b"hello, world", ahead=b"hello")
        one, other = Reader(), Reader(ahead=b"hello")
        for at in range(max(len(first), len(second))):
            one.hear(first[at:at + 1])
            other.hear(second[at:at + 1])
        self.assertEqual((one.known(), other.known()), (b"abcd" * 20, b"hello, world"))
        self.assertEqual((one.is_over(), other.is_over()), (True, True))

    def test_what_is_no_bytes_changes_nothing(self):
        stream = pressed(b"abcabcabc and so on", ahead=b"ab")
        reader, count = Reader(ahead=b"ab"), 0
        for byte in stream:
            for none in NO_BYTES:
                with self.assertRaises(BadBytes):
                    reader.hear(none)
            self.assertEqual(reader.bits(), 8 * count)
            reader.hear(bytes([byte]))
            count += 1
        self.assertEqual((reader.known(), reader.is_over()), (b"abcabcabc and so on", True))

    def test_what_is_refused(self):
        for none in NO_BYTES:
            with self.assertRaises(BadBytes):
                opened(none)
            with self.assertRaises(BadBytes):
                opened(b"", ahead=none)
            with self.assertRaises(BadBytes):
                Reader(ahead=none)
        for told in (b"", pressed(b"abc")):
            with self.assertRaises(BadBytes):
                opened(told, ahead=b"a" * 4097)
        with self.assertRaises(BadBytes):
            Reader(ahead=b"a" * 4097)
        self.assertEqual(opened(pressed(b"aaa", ahead=b"a" * 4096), ahead=b"a" * 4096), b"aaa")
        self.assertEqual(Reader(ahead=b"a" * 4096).known(), b"")
        with self.assertRaises(TypeError):
            opened(b"", b"")
        with self.assertRaises(TypeError):
            Reader(b"")

    def test_long_streams_end_soon(self):
        chance = random.Random(7)
        texts = [plain_text(chance.randbytes(2000)), told_text(list(range(250)) * 8), own_text([97] * 2000, A_ALONE),
                 own_text([97] + [(3, 1)] * 666, A_AND_COPIES)]
        stream = stream_of(with_lasts(texts * 10))
        begun = time.perf_counter()
        data = opened(stream)
        reader = Reader()
        told = [reader.hear(stream[at:at + 1]) for at in range(len(stream))]
        self.assertEqual((len(data), sum(told), reader.known() == data), (10 * (3 * 2000 + 1999), len(data), True))
        self.assertLess(time.perf_counter() - begun, 8)


if __name__ == "__main__":
    unittest.main()
