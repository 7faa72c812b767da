"""Packs, by own writing of each byte and an own going through of what is spoilt."""

import copy
import random
import time
import unittest

from drawn import some_bytes
from presshouse.errors import BadBytes, BadFiles, BadName, BadPack
from presshouse.packs import listed, packed, saved, taken
from presshouse.streams import pressed
from test_blocks import NO_BYTES, phrases
from test_cut import own_cut, own_stream
from test_reader import OwnCourse, own_text, plain_text, stream_of, told_text, with_lasts, A_AND_COPIES

NO_NAMES = ["", "a" * 9, "A", "aB", "a1", "1", "a b", " a", "a ", "a.b", "_", "a-b", "\n", "a\n", "\u00e4", "\u0430", "\u00df", "ab\x00",
            "`", "{", None, True, False, 1, 97, b"a", b"", ("a",), (), frozenset("a")]
FILES = {"one": b"hello, hello, hello", "b": b"", "three": b"hello, there", "zzzzzzzz": bytes(range(40)), "a": b"\xff" * 50}


def own_check(data):
    """Two sums, kept below the modulus at each byte."""
    first, second = 1, 0
    for byte in data:
        first = (first + byte) % 65521
        second = (second + first) % 65521
    return [second // 256, second % 256, first // 256, first % 256]


def own_entry(name, data, stream, check=None):
    size = [len(stream) // 256, len(stream) % 256]
    return bytes([69, len(name)] + [ord(sign) for sign in name] + size + (check or own_check(data))) + stream


def own_tail(many):
    return bytes([many // 256, many % 256, 90])


def own_packed(files, step=256):
    """Each byte of a pack, streams by an own search and writing where they are short."""
    made, ahead = b"", b""
    for name, data in files.items():
        stream = own_stream(data, own_cut(data, step, ahead)[0], ahead) if len(data) <= 600 else pressed(data, ahead=ahead)
        made += own_entry(name, data, stream)
        ahead = data
    return made + own_tail(len(files))


def own_read(told, place, ahead):
    """The name, the file and the place behind of an entry, None where none can be read."""
    rest = told[place:]
    if len(rest) < 2 or rest[0] != ord("E") or rest[1] not in range(1, 9):
        return None
    many = rest[1]
    if len(rest) < many + 8 or any(chr(one) not in "abcdefghijklmnopqrstuvwxyz" for one in rest[2:2 + many]):
        return None
    size = rest[2 + many] * 256 + rest[3 + many]
    stream = rest[many + 8:many + 8 + size]
    if len(stream) != size:
        return None
    course = OwnCourse(stream, ahead)
    if course.slip is not None or course.over is None or len(course.known) > 2000:
        return None
    if bytes(own_check(course.known)) != rest[many + 4:many + 8]:
        return None
    return "".join(chr(one) for one in rest[2:2 + many]), course.known, place + many + 8 + size


def own_saved(told):
    found, place, ahead = [], 0, b""
    while place < len(told):
        entry = own_read(told, place, ahead)
        if entry is None:
            place += 1
        else:
            found.append(entry[:2])
            ahead, place = entry[1:]
    turn = []
    for name, _ in found:
        if name not in turn:
            turn.append(name)
    return [(name, [data for other, data in found if other == name][-1]) for name in turn]


def own_listed(pack):
    """Pairs of names and files, None where it is not written as it must be."""
    found, place, ahead = [], 0, b""
    while len(pack) - place > 3:
        entry = own_read(pack, place, ahead)
        if entry is None:
            return None
        found.append(entry[:2])
        ahead, place = entry[1:]
    names = [name for name, _ in found]
    if pack[place:] != own_tail(len(found)) or len(set(names)) < len(names) or len(names) > 40:
        return None
    return found


def names(many):
    return ["".join(chr(97 + digit) for digit in (k // 26, k % 26)) for k in range(many)]


class TestPacks(unittest.TestCase):
    def check(self, pack):
        """What is told of any bytes, as by own goings through; which files the pack has."""
        found = own_saved(pack)
        told = saved(pack)
        self.assertIs(type(told), dict)
        self.assertEqual(list(told.items()), found)
        pairs = own_listed(pack)
        if pairs is None:
            self.refused(pack)
            return None
        self.assertEqual(listed(pack), [name for name, _ in pairs])
        for name, data in pairs:
            self.assertEqual(taken(pack, name), data)
        return pairs

    def refused(self, pack):
        for door in (lambda: listed(pack), lambda: taken(pack, "one"), lambda: taken(pack, None)):
            with self.assertRaises(BadPack):
                door()

    def check_files(self, files):
        kept = copy.deepcopy(files)
        pack = packed(files)
        self.assertEqual(list(files.items()), list(kept.items()))
        self.assertEqual(pack, own_packed(files))
        self.assertEqual(self.check(pack), list(files.items()))
        self.assertEqual(list(saved(pack).items()), list(files.items()))
        return pack

    def test_by_hand(self):
        self.assertEqual(packed({}), b"\x00\x00\x5a")
        self.assertEqual(packed({"ab": b""}), b"E\x02ab\x00\x02\x00\x00\x00\x01\xbe\xf0" + b"\x00\x01Z")
        # "a" by told words: 1 01 01100001 111101111, and three noughts.
        self.assertEqual(packed({"x": b"a"}), b"E\x01x\x00\x03\x00\x62\x00\x62" + bytes([0b10101100, 0b00111110, 0b11110000])
                         + b"\x00\x01Z")

    def test_kinds_of_what_is_told(self):
        pack = packed(FILES)
        self.assertEqual([type(one) for one in (pack, listed(pack), taken(pack, "b"), saved(pack))], [bytes, list, bytes, dict])
        self.assertEqual([type(one) for one in listed(pack)], [str] * 5)
        self.assertEqual([type(one) for one in saved(pack).values()], [bytes] * 5)

    def test_packs_of_few_files(self):
        chance = random.Random(1)
        self.check_files({})
        self.check_files({"a": b""})
        self.check_files(FILES)
        self.check_files({name: FILES[name] for name in reversed(FILES)})
        self.check_files({"abcdefgh": phrases(chance, 550), "z": phrases(chance, 300)})
        text = phrases(chance, 500, 10)
        self.check_files({"old": text, "new": text[:200] + b"and" + text[200:], "none": b"", "again": text})

    def test_what_stands_ahead_is_the_file_ahead(self):
        data = random.Random(2).randbytes(300)
        twice = packed({"a": data, "b": data})
        self.assertLess(len(twice), 300 + 150)
        self.assertGreater(len(packed({"a": data, "b": b"", "c": data})), 600)
        self.check(twice)

    def test_files_of_none_and_of_2000_bytes(self):
        chance = random.Random(3)
        files = {"a": phrases(chance, 2000), "b": b"", "c": b"\xff" * 2000, "d": chance.randbytes(2000)}
        pack = self.check_files(files)
        # Both sums of 2000 bytes of 255 pass the modulus.
        self.assertIn(bytes(own_check(b"\xff" * 2000)), pack)
        for many in (2001, 3000):
            with self.assertRaises(BadFiles):
                packed({"a": b"a" * many})
            with self.assertRaises(BadFiles):
                packed({"a": b"", "b": b"a" * many})

    def test_40_files_and_41(self):
        files = {name: name.encode() * 3 for name in names(40)}
        pack = self.check_files(files)
        self.assertEqual(pack[-3:], b"\x00\x28Z")
        more = {name: name.encode() for name in names(41)}
        with self.assertRaises(BadFiles):
            packed(more)
        made, ahead = b"", b""
        for name, data in more.items():
            made += own_entry(name, data, pressed(data, ahead=ahead))
            ahead = data
        self.assertIsNone(self.check(made + own_tail(41)))
        self.assertIsNone(self.check(made + own_tail(40)))
        self.assertEqual(list(saved(made + own_tail(41)).items()), list(more.items()))

    def test_names(self):
        self.check_files({"a" * many: b"x" for many in range(1, 9)})
        self.check_files({"abcdefgh": b"1", "ijklmnop": b"2", "qrstuvwx": b"3", "yz": b"4"})
        for none in NO_NAMES:
            for files in ({none: b""}, {"a": b"abc", none: b"abc"}):
                with self.assertRaises(BadFiles):
                    packed(files)

    def test_names_that_entries_have(self):
        stream = pressed(b"abc")
        for name in ("a", "z", "az", "abcdefgh", "stuvwxyz"):
            self.assertEqual(self.check(own_entry(name, b"abc", stream) + own_tail(1)), [(name, b"abc")])
        for name in ("", "abcdefghi", "A", "aZ", "a`", "{a", "a{b", "1", "a b", "\x00", "\xe4", "_"):
            pack = own_entry(name, b"abc", stream) + own_tail(1)
            self.assertIsNone(self.check(pack))
            self.assertEqual(saved(pack), {})

    def test_sizes_of_streams(self):
        stream = pressed(b"abcabc")
        entry = own_entry("a", b"abcabc", stream)
        for size in (0, len(stream) - 1, len(stream) + 1, len(stream) + 2, len(stream) + 256, 65535):
            told = entry[:3] + bytes([size // 256, size % 256]) + entry[5:]
            for rest in (b"", own_tail(1)):
                self.assertIsNone(self.check(told + rest))
                self.assertEqual(saved(told + rest), {})
        self.assertEqual(saved(entry), {"a": b"abcabc"})

    def test_the_step_is_256(self):
        chance = random.Random(9)
        data = chance.randbytes(256) + some_bytes(chance, 300, 3)
        self.assertEqual(own_cut(data, 256, b"")[0], [256, 556])
        self.check_files({"a": data})

    def test_what_is_no_dict_of_files(self):
        for none in (None, True, 1, "", "abc", b"", b"abc", [], [("a", b"")], (("a", b""),), ("a", b""), {"a"}, {"a": b""}.items(), dict):
            with self.assertRaises(BadFiles):
                packed(none)
        for none in NO_BYTES:
            for files in ({"a": none}, {"a": b"", "b": none}, {"a": none, "b": b""}):
                with self.assertRaises(BadFiles):
                    packed(files)

    def test_what_is_no_pack(self):
        for none in NO_BYTES:
            self.refused(none)
            with self.assertRaises(BadBytes):
                saved(none)
        for none in (b"", b"\x00", b"\x00\x00", b"Z", b"\x00Z", b"\x00\x01Z", b"\x01\x00Z", b"\x00\x00[", b"\x00\x00Z\x00", b"\x00\x00\x00Z"):
            self.assertIsNone(self.check(none))
        self.assertEqual(self.check(b"\x00\x00Z"), [])

    def test_names_that_are_none_of_it(self):
        pack = packed(FILES)
        for none in NO_NAMES + ["on", "ones", "One", "zzzzzzz", [], ["one"], {}, {"one": 1}, set(), b"one", object()]:
            with self.assertRaises(BadName):
                taken(pack, none)
            with self.assertRaises(BadName):
                taken(packed({}), none)
            with self.assertRaises(BadPack):
                taken(pack[:-1], none)

    def test_a_byte_otherwise_put_in_or_left_out(self):
        files = {"one": b"hello, hello, hello", "b": b"", "three": b"hello, E\x01x there"}
        pack = packed(files)
        chance = random.Random(4)
        for at in range(len(pack)):
            for other in (pack[at] ^ 1, pack[at] ^ 128, 69, chance.randrange(256)):
                self.check(pack[:at] + bytes([other]) + pack[at + 1:])
                self.check(pack[:at] + bytes([other]) + pack[at:])
            self.check(pack[:at] + pack[at + 1:])

    def test_cut_off_at_either_end_and_two_one_behind_the_other(self):
        pack = packed(FILES)
        for at in range(len(pack)):
            self.check(pack[:at])
            self.check(pack[at:])
        other = packed({"one": b"hello again", "d": b"hello again, hello"})
        for whole in (pack + pack, pack + other, other + pack, pack[:-3] + other, pack[:-1] + other, b"E" + pack, b"E\x03" + pack):
            self.check(whole)
        self.assertEqual(list(saved(pack + other)), list(FILES) + ["d"])
        self.assertEqual(saved(pack + other)["one"], b"hello again")

    def test_the_file_ahead_is_the_one_that_was_read_last(self):
        text = random.Random(5).randbytes(60)
        pack = packed({"a": text, "b": text, "c": text})
        begins = [at for at in range(len(pack)) if pack[at:at + 2] == b"E\x01"]
        first, second, third = begins[0], begins[1], begins[2]
        # Without the first the second can't be read, nor the third; without the second the third can.
        self.assertEqual(saved(pack[second:]), {})
        self.assertEqual(saved(pack[:second] + pack[third:]), {"a": text, "c": text})
        spoilt = pack[:second + 6] + bytes([pack[second + 6] ^ 1]) + pack[second + 7:]
        self.assertEqual(saved(spoilt), {"a": text, "c": text})
        for told in (pack[second:], pack[:second] + pack[third:], spoilt, pack[:first + 3] + b"\x00" + pack[first + 4:]):
            self.check(told)

    def test_a_name_that_comes_twice(self):
        stream = pressed(b"first")
        made = own_entry("a", b"first", stream) + own_entry("b", b"", pressed(b"", ahead=b"first"))
        made += own_entry("a", b"last", pressed(b"last"))
        self.assertIsNone(self.check(made + own_tail(3)))
        self.assertIsNone(self.check(made + own_tail(2)))
        self.assertEqual(list(saved(made + own_tail(3)).items()), [("a", b"last"), ("b", b"")])
        self.assertEqual(list(saved(made).items()), [("a", b"last"), ("b", b"")])

    def test_a_check_that_is_wrong(self):
        stream = pressed(b"abc")
        good = own_check(b"abc")
        for at in range(4):
            for more in (1, 255):
                check = list(good)
                check[at] = (check[at] + more) % 256
                self.assertIsNone(self.check(own_entry("a", b"", stream, check) + own_tail(1)))
        for check in (good[2:] + good[:2], [0, 0, 0, 1], own_check(b"abd"), own_check(b"acb")):
            self.assertIsNone(self.check(own_entry("a", b"", stream, check) + own_tail(1)))
        self.assertEqual(self.check(own_entry("a", b"abc", stream) + own_tail(1)), [("a", b"abc")])

    def test_a_count_of_entries_that_is_wrong(self):
        pack = packed(FILES)
        for many in (0, 4, 6, 5 + 256, 5 * 256, 65535):
            self.assertIsNone(self.check(pack[:-3] + own_tail(many)))
        for last in (0, 89, 91, 255):
            self.assertIsNone(self.check(pack[:-1] + bytes([last])))

    def test_streams_of_any_rows(self):
        data = b"aaaaaaaa"
        streams = [
            stream_of("1" + plain_text(data)), stream_of("1" + told_text([97] * 8)), stream_of("1" + told_text([97, (3, 1), (4, 1)])),
            stream_of(with_lasts([plain_text(b"aaa"), told_text([]), own_text([97, 97, (3, 1)], A_AND_COPIES), plain_text(b"")])),
        ]
        for stream in streams:
            self.assertNotEqual(stream, pressed(data))
            self.assertEqual(self.check(own_entry("a", data, stream) + own_tail(1)), [("a", data)])
            for more in (b"\x00", b"a"):
                self.assertIsNone(self.check(own_entry("a", data, stream + more) + own_tail(1)))
            self.assertIsNone(self.check(own_entry("a", data, stream[:-1]) + own_tail(1)))
        # Copies of the file ahead, not of the one ahead of that.
        copying = stream_of("1" + told_text([(8, 8)]))
        made = own_entry("a", b"x" * 9, pressed(b"x" * 9)) + own_entry("b", data, pressed(data)) + own_entry("c", data, copying)
        self.assertEqual(self.check(made + own_tail(3)), [("a", b"x" * 9), ("b", data), ("c", data)])

    def test_streams_that_tell_more_than_2000_bytes(self):
        for many in (2000, 2001, 3998):
            data = b"a" * many
            text = with_lasts([told_text([97] * (many - 1999)), told_text([97] + [(18, 1)] * 111)])
            pack = own_entry("a", data, stream_of(text)) + own_tail(1)
            self.assertEqual(self.check(pack), [("a", data)] if many == 2000 else None)
            self.assertEqual(saved(pack), {"a": data} if many == 2000 else {})
        long = stream_of(with_lasts([plain_text(b"b" * 2000)] * 30))
        pack = own_entry("a", b"b" * 60000, long) + own_entry("b", b"b", pressed(b"b")) + own_tail(2)
        self.assertEqual(saved(pack), {"b": b"b"})
        self.assertIsNone(self.check(pack))

    def test_long_streams_of_few_bytes(self):
        # Two bytes tell the size: blocks of none make a stream long.
        for many in (20, 21, 22, 170, 171, 5000):
            stream = stream_of(with_lasts([told_text([])] * many + [told_text([97])]))
            pack = own_entry("a", b"a", stream) + own_tail(1)
            self.assertEqual(self.check(pack), [("a", b"a")])

    def test_entries_that_begin_within_the_bytes_of_others(self):
        inner = own_entry("inner", b"inside", pressed(b"inside"))
        # In a plain block whose bytes stand just behind 14 bits, two more make them whole.
        data = b"x" + inner + b"y"
        shifted = bits_shifted(inner)
        stream = stream_of("0" + plain_text(b"") + "1" + plain_text(shifted))
        told = OwnCourse(stream, b"").known
        self.assertIn(inner, stream)
        outer = own_entry("outer", told, stream)
        self.assertEqual(self.check(outer + own_tail(1)), [("outer", told)])
        self.assertEqual(saved(outer), {"outer": told})
        spoilt = own_entry("outer", told, stream, [1, 2, 3, 4])
        self.assertIsNone(self.check(spoilt + own_tail(1)))
        self.assertEqual(saved(spoilt), {"inner": b"inside"})
        # Within a name's place, a size and a check.
        self.assertEqual(saved(b"E\x08abc" + inner), {"inner": b"inside"})
        self.assertEqual(saved(b"E\x01a\xff\xff" + inner), {"inner": b"inside"})
        self.assertEqual(saved(b"E" * 9 + inner + data), {"inner": b"inside"})
        for told in (b"E\x08abc" + inner, b"E\x01a\xff\xff" + inner, b"E" * 9 + inner + data, b"E\x01a\x00\x0e" + inner * 2):
            self.check(told)

    def test_any_bytes(self):
        chance = random.Random(6)
        for many in (0, 1, 5, 100, 3000):
            for data in (chance.randbytes(many), b"E" * many, b"E\x01a" * many, bytes(many), some_bytes(chance, many, 26)):
                self.check(data)

    def test_entries_among_other_bytes(self):
        chance = random.Random(7)
        for _ in range(40):
            made, ahead = b"", b""
            for name in names(chance.randrange(1, 7)):
                made += chance.randbytes(chance.choice([0, 0, 3, 9]))
                data = chance.choice([ahead, ahead + b"more", phrases(chance, 40), b""])
                entry = own_entry(chance.choice([name, "aa"]), data, pressed(data, ahead=ahead))
                if chance.random() < 0.2:
                    entry = entry[:chance.randrange(len(entry))]
                else:
                    ahead = data
                made += entry
            self.check(made + own_tail(3))

    def test_what_is_told_is_new(self):
        pack = packed(FILES)
        told = saved(pack)
        told.clear()
        listed(pack).clear()
        self.assertEqual(saved(pack), FILES)
        self.assertEqual(listed(pack), list(FILES))
        files = dict(FILES)
        packed(files)
        files["more"] = b"x"
        self.assertEqual(packed(FILES), pack)

    def test_the_greatest_end_soon(self):
        chance = random.Random(8)
        for data in (b"a" * 2000, phrases(chance, 2000), chance.randbytes(2000)):
            files = {name: data[k:] + data[:k] for k, name in enumerate(names(40))}
            begun = time.perf_counter()
            pack = packed(files)
            self.assertEqual(listed(pack), names(40))
            self.assertEqual(taken(pack, names(40)[-1]), files[names(40)[-1]])
            self.assertEqual(saved(pack), files)
            saved(pack[1:])
            self.assertLess(time.perf_counter() - begun, 15)


def bits_shifted(inner):
    """Bytes of a plain block that begins at bit 28 of a stream, so that these stand in it at whole bytes."""
    text = "1010" + "".join(format(byte, "08b") for byte in inner) + "1111"
    return bytes(int(text[at:at + 8], 2) for at in range(0, len(text), 8))


if __name__ == "__main__":
    unittest.main()
