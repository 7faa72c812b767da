"""Differences, against an own search over all items at every place and an own following of each byte."""

import bisect
import copy
import itertools
import random
import time
import unittest

from drawn import some_bytes
from presshouse.differences import difference, flat, joined, put_on, shown
from presshouse.errors import BadBytes, BadDifference, BadItems
from test_blocks import NO_BYTES, phrases

# Items that can't stand behind 5 bytes, where the old has 10.
NO_ITEMS = [
    256, -1, 10 ** 30, True, False, None, "a", b"a", "new", [97], ["new", 3, 1], ["old", 3, 1], {}, (), ("new",), ("new", 3),
    ("new", 3, 1, 1), ("new", 2, 1), ("new", 256, 1), ("new", 0, 1), ("new", -3, 1), ("new", True, 1), ("new", "3", 1),
    ("new", None, 1), ("new", 3, 0), ("new", 3, -1), ("new", 3, 6), ("new", 3, 2001), ("new", 3, True), ("new", 3, None),
    ("new", 3, "1"), ("new", (3,), 1), ("new", 3, [1]), ("old",), ("old", 3), ("old", 3, 1, 1), ("old", 0, 1), ("old", -1, 1),
    ("old", 256, 0), ("old", True, 1), ("old", 3, True), ("old", 3, False), ("old", None, 1), ("old", 3, None),
    ("old", 3, -1), ("old", 3, 8), ("old", 1, 10), ("old", 11, 0), ("old", 10, 1), ("old", 3, "1"), ("old", [3], 1),
    ("New", 3, 1), ("OLD", 3, 1), ("", 3, 1), (b"new", 3, 1), (b"old", 3, 1), (None, 3, 1), (3, 1), (3, 3, 1), (True, 3, 1),
    (["new"], 3, 1), (("new",), 3, 1),
]
NO_MARKS = [
    None, True, 5, "", (), (5,), (5, 1, 1), [5, 1], (-1, 1), (2001, 1), (5, -1), (5, 65521), (True, 1), (5, True), (False, 1),
    (5, False), (None, 1), (5, None), ("5", 1), (5, "1"), ((5,), 1), (5, [1]), {5: 1}, (10 ** 30, 1), (5, 10 ** 30),
]


def own_mark(data):
    total = 0
    for count, byte in enumerate(data, start=1):
        for _ in range(count):
            total = (total + byte) % 65521
    return len(data), total


def own_items(old, new, at):
    """All items that can stand at a place, with their bits, the first of equal ones first."""
    found = []
    for back in range(1, min(2000, at) + 1):
        run = 0
        while run < 255 and at + run < len(new) and new[at + run] == new[at + run - back]:
            run += 1
        found += [(-many, 0, back, 20, ("new", many, back)) for many in range(3, run + 1)]
    for place in range(len(old)):
        run = 0
        while run < 255 and at + run < len(new) and place + run < len(old) and new[at + run] == old[place + run]:
            run += 1
        found += [(-many, 1, place, 24, ("old", many, place)) for many in range(1, run + 1)]
    return [(1, 9, new[at])] + [(-one[0], one[3], one[4]) for one in sorted(found)]


def own_difference(old, new):
    costs, firsts = [0], []
    for at in reversed(range(len(new))):
        items = own_items(old, new, at)
        costs.insert(0, min(bits + costs[many - 1] for many, bits, _ in items))
        firsts.insert(0, [one for one in items if one[1] + costs[one[0]] == costs[0]][0])
    row, at = [], 0
    while at < len(new):
        row.append(firsts[at][2])
        at += firsts[at][0]
    return (own_mark(old), own_mark(new), row), costs


def own_shown(old, new, told, costs):
    """What the interface says of `shown`, word by word; the difference is one by itself."""
    if told[0] != own_mark(old) or told[1] != own_mark(new) or own_put_on(old, told[2]) != new:
        return False
    if len(costs) != len(new) + 1 or any(type(one) is not int and one is not None for one in costs):
        return False
    if any(one is not None and one < 0 for one in costs) or costs[-1] != 0:
        return False
    for at in range(len(new)):
        for many, bits, _ in own_items(old, new, at):
            behind = costs[at + many]
            if behind is not None and (costs[at] is None or bits + behind < costs[at]):
                return False
    return sum(9 if isinstance(item, int) else {"new": 20, "old": 24}[item[0]] for item in told[2]) == costs[0]


def own_many(row):
    return sum(1 if isinstance(one, int) else one[1] for one in row)


def own_origins(row):
    """Where each new byte comes from, each followed back by itself: ("byte", it) or ("old", its place)."""
    begins = list(itertools.accumulate([1 if isinstance(one, int) else one[1] for one in row], initial=0))
    return [own_origin(row, begins, at) for at in range(begins[-1])]


def own_origin(row, begins, at):
    while True:
        count = bisect.bisect_right(begins, at) - 1
        item = row[count]
        if isinstance(item, int):
            return "byte", item
        if item[0] == "old":
            return "old", item[2] + at - begins[count]
        # A copy may copy its own: so far back that it is ahead of the item, by whole backs.
        over = at - begins[count]
        at -= item[2] * (over // item[2] + 1)


def own_put_on(old, row):
    return bytes(old[number] if kind == "old" else number for kind, number in own_origins(row))


def own_row(origins):
    """The flat row: runs of places cut into 255 each."""
    row, at = [], 0
    while at < len(origins):
        kind, number = origins[at]
        if kind == "byte":
            row.append(number)
            at += 1
            continue
        run = 1
        while run < 255 and at + run < len(origins) and origins[at + run] == ("old", number + run):
            run += 1
        row.append(("old", run, number))
        at += run
    return row


def drawn_difference(chance, old_mark, most=40):
    """One by itself, whatever bytes it is for."""
    row, there = [], 0
    for _ in range(chance.randrange(most)):
        kind = chance.randrange(3)
        if kind == 1 and there > 0:
            row.append(("new", chance.randint(3, 12), chance.randint(1, there)))
            there += row[-1][1]
        elif kind == 2 and old_mark[0] > 0:
            place = chance.randrange(old_mark[0])
            row.append(("old", chance.randint(1, min(255, old_mark[0] - place)), place))
            there += row[-1][1]
        else:
            row.append(chance.randrange(256))
            there += 1
        if there > 1700:
            break
    return old_mark, (there, chance.randrange(65521)), row


def pairs_of_bytes(chance):
    """Old and new bytes that have much or little of each other."""
    for kinds in (1, 2, 3, 8):
        for _ in range(12):
            old = some_bytes(chance, chance.randrange(30), kinds)
            new = some_bytes(chance, chance.randrange(30), kinds)
            yield old, new
            yield old, old[5:] + new + old[:9]


class TestDifference(unittest.TestCase):
    def check(self, old, new):
        told, costs = own_difference(old, new)
        found = difference(old, new)
        self.assertEqual(found, (told, costs))
        self.assertEqual([type(one) for one in (found, *found, *found[0])], [tuple, tuple, list, tuple, tuple, list])
        self.assertIs(shown(old, new, *found), True)
        self.assertEqual(put_on(old, found[0]), new)
        return found

    def test_by_hand(self):
        self.assertEqual(difference(b"", b""), (((0, 0), (0, 0), []), [0]))
        self.assertEqual(difference(b"abc", b""), (((3, 97 + 2 * 98 + 3 * 99), (0, 0), []), [0]))
        self.assertEqual(difference(b"", b"a"), (((0, 0), (1, 97), [97]), [9, 0]))
        (_, mark, row), costs = difference(b"hello, world", b"hello, there")
        self.assertEqual(row, [("old", 7, 0), 116, 104, 101, 114, 101])
        self.assertEqual(costs, [69] * 5 + [63, 54, 45, 36, 27, 18, 9, 0])
        (_, _, row), costs = difference(b"", b"abcabcabc")
        self.assertEqual((row, costs), ([97, 98, 99, ("new", 6, 3)], [47, 38, 29, 20, 20, 20, 20, 18, 9, 0]))

    def test_marks(self):
        self.assertEqual(difference(b"\x01\x02\x03", b"\xff")[0][:2], ((3, 1 + 4 + 9), (1, 255)))
        chance = random.Random(1)
        for many in (1, 22, 23, 256, 511, 2000):
            for data in (b"\xff" * many, chance.randbytes(many)):
                self.assertEqual(difference(data, b"")[0][0], own_mark(data))
                self.assertEqual(difference(b"", data)[0][1], own_mark(data))
        # 65521 is 256 times 255 and 241: the sum is just that, one less and one more.
        zero = bytes(240) + b"\x01" + bytes(14) + b"\xff" + bytes(100)
        self.assertEqual([256 * 255 + 241, own_mark(zero)], [65521, (356, 0)])
        self.assertEqual(difference(zero, b"\x01" + zero[1:])[0][:2], ((356, 0), (356, 1)))

    def test_all_small_bytes(self):
        for code in range(3 ** 7):
            signs = bytes(97 + code // 3 ** k % 3 for k in range(7))
            cut = code % 5
            self.check(signs[:cut], signs[cut:])

    def test_drawn_bytes(self):
        chance = random.Random(2)
        for old, new in pairs_of_bytes(chance):
            self.check(old, new)
        for many in (60, 90):
            old = phrases(chance, many, 6)
            self.check(old, old[20:50] + b"xyz" + old[:30] + old[25:70])

    def test_of_several_the_first(self):
        # Three copies of the new have as many bits as one of the old and four bytes; and so on.
        chance = random.Random(3)
        several = 0
        for _ in range(150):
            pieces = [some_bytes(chance, chance.randint(3, 5), 4) for _ in range(4)]
            old = b"".join(chance.choices(pieces, k=5))
            new = b"".join(chance.choices(pieces, k=7))
            (_, _, row), costs = self.check(old, new)
            at = 0
            for item in row:
                found = [many for many, bits, _ in own_items(old, new, at) if bits + costs[at + many] == costs[at]]
                several += len(set(found)) > 1
                at += 1 if isinstance(item, int) else item[1]
        self.assertGreater(several, 50)

    def test_the_least_back_and_the_least_place(self):
        (_, _, row), _ = self.check(b"wxyzwxyz", b"abcdabcdabcd1wxyz2wxyz")
        self.assertEqual(row, [97, 98, 99, 100, ("new", 8, 4), 49, ("old", 4, 0), 50, ("new", 4, 5)])
        (_, _, row), _ = self.check(b"", b"abcdXabcdYabcd")
        self.assertEqual(row[-1], ("new", 4, 5))

    def test_copies_of_up_to_255(self):
        for many in (254, 255, 256, 257, 258, 300, 510, 511):
            old = bytes(k % 251 for k in range(many))
            (_, _, row), costs = difference(old, old)
            self.assertEqual((row, costs[0]), ([("old", many, 0)], 24) if many < 256 else (row, costs[0]))
            self.assertEqual(max(item[1] for item in row if isinstance(item, tuple)), min(255, many))
            self.assertTrue(shown(old, old, *difference(old, old)))
            (_, _, row), costs = difference(b"", b"a" * many)
            self.assertEqual(own_put_on(b"", row), b"a" * many)
            self.assertEqual(costs[0], min(20 * copies + 9 * max(1, many - 255 * copies) for copies in range(4)))
        self.assertEqual(difference(bytes(range(256)), bytes(range(256)))[0][2], [0, ("old", 255, 1)])

    def test_2000_bytes(self):
        chance = random.Random(4)
        far = chance.randbytes(3)
        new = far + bytes(k % 256 for k in range(1994)) + far
        (_, _, row), _ = difference(b"", new)
        self.assertEqual(row[-1], ("new", 3, 1997))
        (_, _, row), _ = difference(bytes(1997) + far, far)
        self.assertEqual(row, [("old", 3, 1997)])
        for old, new in ((b"a" * 2000, b"a" * 2000), (b"", b"a" * 2000), (b"a" * 2000, b""), (b"ab" * 1000, b"ba" * 1000)):
            found = difference(old, new)
            self.assertTrue(shown(old, new, *found))
            self.assertEqual(put_on(old, found[0]), new)

    def test_the_greatest_end_soon(self):
        chance = random.Random(5)
        kinds = [b"a" * 2000, some_bytes(chance, 2000, 2), phrases(chance, 2000), chance.randbytes(2000),
                 (b"a" * 100 + b"b" + b"a" * 99) * 10, b"a" * 1000 + b"b" + b"a" * 999]
        begun = time.perf_counter()
        for old in kinds:
            for new in (old, kinds[0], kinds[-1], kinds[2]):
                found, costs = difference(old, new)
                self.assertTrue(shown(old, new, found, costs))
                self.assertEqual(put_on(old, found), new)
                self.assertEqual(put_on(old, flat(found)), new)
                self.assertEqual(joined(found, difference(new, old)[0])[:2], (found[0], found[0]))
        self.assertLess(time.perf_counter() - begun, 20)

    def test_what_is_no_bytes(self):
        for none in NO_BYTES + [b"a" * 2001, b"a" * 9000]:
            for old, new in ((none, b"a"), (b"a", none), (none, none)):
                with self.assertRaises(BadBytes):
                    difference(old, new)
        difference(b"a" * 2000, b"a" * 2000)

    def test_what_is_told_is_new(self):
        found, costs = difference(b"abc", b"abcabc")
        kept = copy.deepcopy((found, costs))
        found[2].clear()
        costs.clear()
        self.assertEqual(difference(b"abc", b"abcabc"), kept)


class TestShown(unittest.TestCase):
    def check(self, old, new, told, costs):
        kept = copy.deepcopy((told, costs))
        answer = shown(old, new, told, costs)
        self.assertIs(answer, own_shown(old, new, told, costs))
        self.assertEqual((told, costs), kept)
        return answer

    def test_costs_otherwise(self):
        chance = random.Random(6)
        answers = []
        for _ in range(12):
            kinds = chance.choice([1, 2, 4])
            old, new = some_bytes(chance, 12, kinds), some_bytes(chance, 14, kinds)
            told, costs = difference(old, new)
            self.assertTrue(self.check(old, new, told, costs))
            for at in range(len(costs)):
                for other in (costs[at] + 1, costs[at] - 1, costs[at] + 10, 0, 10 ** 30, -1, None, True, False, "0", [], 3):
                    answers.append(self.check(old, new, told, costs[:at] + [other] + costs[at + 1:]))
            for other in (costs[1:], costs + [0], [], [0], [None] * len(costs), [0] * len(costs), [None, *costs[1:]]):
                answers.append(self.check(old, new, told, other))
        self.assertGreater(answers.count(True), 50)
        self.assertGreater(answers.count(False), 500)

    def test_one_more_is_never_shown(self):
        old, new = b"hello, world", b"well, hello"
        told, costs = difference(old, new)
        for at in range(len(costs)):
            self.assertFalse(shown(old, new, told, costs[:at] + [costs[at] + 1] + costs[at + 1:]))
            self.assertFalse(shown(old, new, told, costs[:at] + [None] + costs[at + 1:]))
        self.assertFalse(shown(old, new, told, [costs[0] - 1] + costs[1:]))

    def test_costs_that_fall_and_rise(self):
        # A long copy may lead over places that cost more than those behind and ahead.
        chance = random.Random(7)
        for _ in range(300):
            old, new = some_bytes(chance, 8, 2), some_bytes(chance, 9, 2)
            told, costs = difference(old, new)
            other = [chance.choice([one, one, one + chance.randint(-9, 9), None]) for one in costs]
            self.check(old, new, told, other[:-1] + [0])
            self.check(old, new, told, costs[:1] + other[1:-1] + [0])

    def test_items_otherwise(self):
        old, new = b"abcabcab", b"abcabcxabcab"
        told, costs = difference(old, new)
        self.assertTrue(self.check(old, new, told, costs))
        rows = [
            list(new), [("old", 6, 0), 120, ("old", 5, 3)], [("old", 6, 0), 120, ("new", 5, 7)], [("old", 6, 0), 120, ("new", 5, 4)],
            [("old", 6, 0), 121, ("new", 5, 7)], [("old", 3, 0), ("old", 3, 3), 120, ("new", 5, 7)],
            [("old", 6, 0), ("old", 1, 0), ("new", 5, 7)], [97, 98, 99, ("new", 3, 3), 120, ("new", 5, 7)],
        ]
        for row in rows:
            self.check(old, new, (told[0], told[1], row), costs)
            bits = sum(9 if isinstance(item, int) else {"new": 20, "old": 24}[item[0]] for item in row)
            self.check(old, new, (told[0], told[1], row), [bits] + costs[1:])

    def test_marks_and_bytes_otherwise(self):
        old, new = b"abcabcab", b"abcabcxabcab"
        told, costs = difference(old, new)
        row = told[2]
        for mark in ((8, 0), (8, told[0][1] + 1), (9, told[0][1]), (2000, 1)):
            self.assertFalse(shown(old, new, (mark, told[1], row), costs))
        for mark in ((12, 0), (12, told[1][1] + 1)):
            self.assertFalse(shown(old, new, (told[0], mark, row), costs))
        for other in (b"", b"abcabcac", b"abcabca", b"abcabcabc", b"a" * 2000):
            self.assertFalse(shown(other, new, told, costs))
        for other in (b"", b"abcabcxabcac", b"abcabcxabcabc", b"abcabcxabca", b"a" * 2000):
            self.assertFalse(shown(old, other, told, costs))
        # The same mark, but other bytes: twice a byte less, once the one at twice the count more.
        other = b"bacabcab"
        self.assertNotEqual(own_mark(other), told[0])
        other = bytes([old[0] + 2, old[1] - 1]) + old[2:]
        self.assertEqual(own_mark(other), told[0])
        self.assertFalse(shown(other, new, told, costs))

    def test_several_as_good_ones_are_shown(self):
        old = new = b"abcdefgh" * 3
        told, costs = difference(old, new)
        self.assertEqual(told[2], [("old", 24, 0)])
        old = b"abcdefgh--abcdefgh"
        told, costs = difference(old, b"abcdefgh")
        for place, truth in ((0, True), (10, True), (2, False)):
            self.assertIs(shown(old, b"abcdefgh", (told[0], told[1], [("old", 8, place)]), costs), truth)

    def test_refusals_in_turn(self):
        told, costs = difference(b"ab", b"abc")
        for none in NO_BYTES + [b"a" * 2001]:
            for old, new in ((none, b"abc"), (b"ab", none)):
                for other, other_costs in ((told, costs), (None, costs), (told, None), (None, None)):
                    with self.assertRaises(BadBytes):
                        shown(old, new, other, other_costs)
        for none in (None, told[:2], list(told), ((2, 1), (1, 1), [97, 98])):
            for other_costs in (costs, None, [True]):
                with self.assertRaises(BadDifference):
                    shown(b"ab", b"abc", none, other_costs)
        for none in (None, True, 0, "", "abc", (), tuple(costs), {}, {0: 1}, {0}, b"", b"ab", iter(costs)):
            for old in (b"ab", b"other"):
                with self.assertRaises(BadItems) as caught:
                    shown(old, b"abc", told, none)
                self.assertIsNone(caught.exception.at)
        # Whatever is in a list: it is none that shows.
        for other in ([], ["a"], [None], [[]], [{}], [b"a"] * 4, [()] * 4, [True] * 4, ["", None, 3, 0]):
            self.assertIs(shown(b"ab", b"abc", told, other), False)

    def test_all_bounds_are_taken(self):
        for old, new in ((b"", b""), (b"a" * 2000, b"a" * 2000)):
            self.assertTrue(shown(old, new, *difference(old, new)))


class TestPutOn(unittest.TestCase):
    def test_drawn_rows(self):
        chance = random.Random(8)
        for _ in range(150):
            old = some_bytes(chance, chance.randrange(40), 5)
            mark, _, row = drawn_difference(chance, own_mark(old))
            new = own_put_on(old, row)
            told = (mark, own_mark(new), row)
            kept = copy.deepcopy(told)
            self.assertEqual(put_on(old, told), new)
            self.assertIs(type(put_on(old, told)), bytes)
            self.assertEqual(told, kept)

    def test_bytes_of_another_mark(self):
        told, _ = difference(b"hello", b"hello, hello")
        self.assertEqual(put_on(b"hello", told), b"hello, hello")
        for old in (b"", b"hell", b"hello ", b"jello", b"hellp", b"ehllo", b"a" * 2000):
            with self.assertRaises(BadDifference):
                put_on(old, told)
        # Other bytes of the same mark are such bytes, but then what they make must be of the second one, too.
        old = bytes([104 + 2, 101 - 1]) + b"llo"
        self.assertEqual(own_mark(old), told[0])
        with self.assertRaises(BadDifference):
            put_on(old, (told[0], (6, told[1][1]), [("old", 5, 0), 33]))
        made = old + b", " + old
        row = [("old", 5, 0), 44, 32, ("old", 5, 0)]
        self.assertEqual(put_on(old, (told[0], own_mark(made), row)), made)

    def test_a_second_mark_that_is_not_so(self):
        mark = own_mark(b"hello")
        row = [("old", 5, 0), 33]
        new = own_mark(b"hello!")
        self.assertEqual(put_on(b"hello", (mark, new, row)), b"hello!")
        for total in (0, new[1] + 1, new[1] - 1, 65520):
            with self.assertRaises(BadDifference):
                put_on(b"hello", (mark, (6, total), row))

    def test_refusals_in_turn(self):
        told, _ = difference(b"ab", b"abc")
        for none in NO_BYTES + [b"a" * 2001]:
            for other in (told, None, told[:2]):
                with self.assertRaises(BadBytes):
                    put_on(none, other)
        with self.assertRaises(BadDifference):
            put_on(b"ab", None)


class TestFlatAndJoined(unittest.TestCase):
    def test_flat_by_hand(self):
        mark, new = (300, 7), (0, 0)
        for row, flat_row in (
            ([], []), ([97, 98], [97, 98]), ([97, ("new", 4, 1)], [97] * 5),
            ([("old", 3, 5)], [("old", 3, 5)]), ([("old", 3, 5), ("old", 4, 8)], [("old", 7, 5)]),
            ([("old", 3, 5), ("old", 4, 9)], [("old", 3, 5), ("old", 4, 9)]),
            ([("old", 3, 5), ("old", 3, 5)], [("old", 3, 5), ("old", 3, 5)]),
            ([("old", 3, 5), ("old", 3, 2)], [("old", 3, 5), ("old", 3, 2)]),
            ([("old", 3, 5), ("new", 5, 3)], [("old", 3, 5), ("old", 3, 5), ("old", 2, 5)]),
            ([("old", 1, 9), ("new", 3, 1)], [("old", 1, 9)] * 4),
            ([("old", 2, 9), 7, ("new", 6, 3)], [("old", 2, 9), 7] * 3),
            ([("old", 2, 9), 7, ("old", 1, 11), ("new", 3, 3)], [("old", 2, 9), 7, ("old", 1, 11), ("old", 1, 10), 7, ("old", 1, 11)]),
            ([("old", 200, 0), ("old", 100, 200)], [("old", 255, 0), ("old", 45, 255)]),
            ([("old", 255, 0), ("old", 45, 255)], [("old", 255, 0), ("old", 45, 255)]),
            ([("old", 1, k) for k in range(300)], [("old", 255, 0), ("old", 45, 255)]),
            ([("old", 10, 245), 5, ("old", 10, 290)], [("old", 10, 245), 5, ("old", 10, 290)]),
        ):
            told = (mark, (own_many(row), 0), row)
            self.assertEqual(flat(told), (mark, (own_many(row), 0), flat_row))
            self.assertEqual(flat(flat(told)), flat(told))
        self.assertEqual([type(one) for one in flat((mark, new, []))], [tuple, tuple, list])

    def test_flat_of_drawn_ones(self):
        chance = random.Random(9)
        for many in [0, 1, 5, 40, 400, 2000] * 25:
            told = drawn_difference(chance, (many, chance.randrange(65521)))
            kept = copy.deepcopy(told)
            found = flat(told)
            self.assertEqual(found, (told[0], told[1], own_row(own_origins(told[2]))))
            self.assertEqual(told, kept)
            self.assertIsNot(found[2], told[2])

    def test_more_than_255_places_on_end(self):
        for many in (254, 255, 256, 509, 510, 511, 765, 766, 1300):
            row = [("old", min(100, many - at), 700 + at) for at in range(0, many, 100)]
            told = ((2000, 0), (many, 0), row)
            found = flat(told)[2]
            self.assertEqual(found, own_row(own_origins(row)))
            self.assertEqual([item[1] for item in found], [255] * (many // 255) + [many % 255] * (many % 255 > 0))

    def test_joined_drawn_ones(self):
        chance = random.Random(10)
        for many in [0, 1, 5, 40, 400, 2000] * 25:
            first = drawn_difference(chance, (many, chance.randrange(65521)))
            second = drawn_difference(chance, first[1])
            kept = copy.deepcopy((first, second))
            between = own_origins(first[2])
            origins = [between[number] if kind == "old" else (kind, number) for kind, number in own_origins(second[2])]
            self.assertEqual(joined(first, second), (first[0], second[1], own_row(origins)))
            self.assertEqual((first, second), kept)

    def test_joined_on_bytes(self):
        chance = random.Random(11)
        for old, new in pairs_of_bytes(chance):
            last = new[3:] + old[:7] + b"xyz"
            first, second = difference(old, new)[0], difference(new, last)[0]
            self.assertEqual(put_on(old, joined(first, second)), last)
            self.assertEqual(joined(first, second), flat(joined(first, second)))
            self.assertEqual(put_on(old, flat(first)), new)

    def test_marks_that_do_not_meet(self):
        first, second = difference(b"abc", b"abcd")[0], difference(b"abcd", b"abc")[0]
        self.assertEqual(joined(first, second), (first[0], first[0], [("old", 3, 0)]))
        for mark in ((3, second[0][1]), (5, second[0][1]), (4, second[0][1] + 1), (4, 0)):
            with self.assertRaises(BadDifference):
                joined(first, (mark, (1, 5), [("old", 1, 0)]))
        with self.assertRaises(BadDifference):
            joined(second, second)

    def test_what_is_told_is_new(self):
        told = ((3, 1), (4, 2), [("old", 3, 0), 97])
        found, again = flat(told), joined(((9, 9), (3, 1), [1, 2, 3]), told)
        found[2].clear()
        again[2].clear()
        self.assertEqual(told, ((3, 1), (4, 2), [("old", 3, 0), 97]))
        self.assertEqual(flat(told)[2], [("old", 3, 0), 97])


class TestNoDifferences(unittest.TestCase):
    """Triples that are none by themselves, at every door."""

    def refused(self, none):
        meets = ((10, 1), (5, 1), [97] * 5)
        for door in (
            lambda: flat(none), lambda: put_on(b"a" * 10, none), lambda: shown(b"a" * 10, b"b" * 5, none, [0]),
            lambda: joined(none, meets), lambda: joined(((1, 1), (10, 1), [97] * 10), none), lambda: joined(none, none),
        ):
            with self.assertRaises(BadDifference):
                door()

    def taken(self, told):
        self.assertEqual(flat(told), (told[0], told[1], own_row(own_origins(told[2]))))
        self.assertIsInstance(shown(b"", b"", told, []), bool)
        joined(((1, 1), told[0], [97] * told[0][0]), told)

    def test_what_is_no_triple(self):
        good = ((10, 1), (5, 1), [97] * 5)
        self.taken(good)
        for none in (None, True, 3, "", "abc", b"abc", [], list(good), (), good[:2], good + (1,), {0: good}, set("abc"), flat):
            self.refused(none)

    def test_what_is_no_mark(self):
        for none in NO_MARKS:
            self.refused((none, (5, 1), [97] * 5))
            self.refused(((10, 1), none, [97] * 5))
        for mark in ((0, 0), (2000, 65520), (5, 0)):
            self.taken((mark, (5, 65520), [97] * 5))
        self.taken(((0, 0), (2000, 0), [97] * 2000))
        self.refused(((0, 0), (2001, 0), [97] * 2001))

    def test_what_is_no_row(self):
        for none in (None, True, 5, "", "abcde", b"abcde", (97,) * 5, {97: 1}, {}, {97}, iter([97] * 5)):
            self.refused(((10, 1), (5, 1), none))

    def test_what_is_no_item(self):
        for none in NO_ITEMS:
            for many in (4, 5, 6, 7, 8, 9, 15, 16, 1):
                self.refused(((10, 1), (many, 1), [97] * 5 + [none]))
            self.refused(((10, 1), (6, 1), [none] + [97] * 5))
        for item, many in ((0, 1), (255, 1), (("new", 3, 5), 3), (("new", 3, 1), 3), (("new", 255, 5), 255), (("old", 1, 0), 1),
                           (("old", 1, 9), 1), (("old", 10, 0), 10), (("old", 3, 7), 3)):
            self.taken(((10, 1), (5 + many, 1), [97] * 5 + [item]))

    def test_copies_of_the_new_from_ahead_of_what_is_there(self):
        for row in ([("new", 3, 1)], [97, ("new", 3, 2)], [97, ("new", 3, 1), ("new", 3, 5)], [("old", 3, 0), ("new", 3, 4)]):
            self.refused(((10, 1), (own_many(row), 1), row))
        for row in ([97, ("new", 3, 1)], [97, ("new", 3, 1), ("new", 3, 4)], [("old", 3, 0), ("new", 3, 3)]):
            self.taken(((10, 1), (own_many(row), 1), row))
        self.taken(((10, 1), (2000, 1), [97] * 1997 + [("new", 3, 1997)]))

    def test_copies_of_the_old_from_beyond_its_count(self):
        for count in (0, 1, 254, 255, 256, 1999, 2000):
            for many in (1, 2, 255):
                for place in (0, 1, 255, 1745, 1999, 2000):
                    told = ((count, 1), (many, 1), [("old", many, place)])
                    if place + many > count:
                        self.refused(told)
                    else:
                        self.taken(told)

    def test_other_counts_of_bytes(self):
        for row in ([], [97], [97, 98], [97, ("new", 3, 1)], [("old", 4, 2)]):
            for count in range(8):
                told = ((10, 1), (count, 1), row)
                if count == own_many(row):
                    self.taken(told)
                else:
                    self.refused(told)


if __name__ == "__main__":
    unittest.main()
