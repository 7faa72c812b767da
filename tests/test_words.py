"""Words by lengths, and least lengths under a bound."""

import functools
import itertools
import random
import unittest

from presshouse.errors import BadBound, BadLengths, BadWeights
from presshouse.words import least_lengths, words

OTHER_KINDS = (None, True, False, 3, "", "12", b"12", (1, 1), {}, {0: 1, 1: 1}, {1, 2}, range(1, 3), iter([1, 1]),
               object(), len, list)
NO_NUMBERS = (True, False, None, "1", b"1", [1], (1,), {}, object())


def words_by_point_2(lengths):
    """Point 2 by the letter, on rows of signs: one more, carried by hand, then noughts."""
    found = {}
    word = None
    for length in range(1, 13):
        for letter, own in enumerate(lengths):
            if own != length:
                continue
            if word is None:
                word = "0" * length
            else:
                kept = word.rstrip("1")
                word = kept[:-1] + "1" + "0" * (len(word) - len(kept))
                word = word + "0" * (length - len(word))
            found[letter] = word
    return found


def lengths_by_point_3(weights, bound):
    """Point 3 by the letter: each package holds the list of all its coins."""
    letters = [letter for letter, weight in enumerate(weights) if weight]
    told = [0] * len(weights)
    if len(letters) == 1:
        told[letters[0]] = 1
        return told
    level = []
    for count in range(bound):
        entries = [(weights[letter], 0, letter, [letter]) for letter in letters]
        for at in range(len(level) // 2):
            first, second = level[2 * at], level[2 * at + 1]
            entries.append((first[0] + second[0], 1, at, first[3] + second[3]))
        level = sorted(entries)
    for entry in level[:2 * len(letters) - 2]:
        for letter in entry[3]:
            told[letter] += 1
    return told


def least_sum(weights, bound):
    """The least sum over all counts of words by lengths that fill just 1."""
    falling = sorted((weight for weight in weights if weight), reverse=True)
    if len(falling) == 1:
        return falling[0]

    @functools.lru_cache(None)
    def go_on(length, at, room):
        # room: how many words of this length are left; the heaviest letters take the shortest.
        left = len(falling) - at
        if left == 0 and room == 0:
            return 0
        if length > bound or room == 0 or room > left:
            return None
        found = []
        for many in range(min(left, room) + 1):
            behind = go_on(length + 1, at + many, (room - many) * 2)
            if behind is not None:
                found.append(length * sum(falling[at:at + many]) + behind)
        return min(found, default=None)

    return go_on(1, 0, 2)


def cost(weights, lengths):
    return sum(weight * length for weight, length in zip(weights, lengths))


def fill(lengths):
    return sum(4096 >> length for length in lengths if length)


def good_lengths(chance, many):
    """Good lengths for so many letters, split at chance, with some noughts between."""
    lengths = [1, 1]
    while len(lengths) < many:
        at = chance.randrange(len(lengths))
        if lengths[at] < 12:
            lengths[at] += 1
            lengths.append(lengths[at])
    lengths += [0] * chance.randrange(10)
    chance.shuffle(lengths)
    return lengths


class TestWords(unittest.TestCase):
    def test_ordinary(self):
        self.assertEqual(words([2, 1, 3, 3]), {0: "10", 1: "0", 2: "110", 3: "111"})
        self.assertEqual(words([1, 1]), {0: "0", 1: "1"})
        self.assertEqual(words([2, 2, 2, 2]), {0: "00", 1: "01", 2: "10", 3: "11"})

    def test_letters_without_words(self):
        self.assertEqual(words([0, 3, 0, 1, 2, 3, 0]), {1: "110", 3: "0", 4: "10", 5: "111"})

    def test_long_words_behind_short_ones(self):
        lengths = [12, *range(1, 13)]
        told = words(lengths)
        self.assertEqual(told[1], "0")
        self.assertEqual(told[4], "1110")
        self.assertEqual(told[0], "1" * 11 + "0")
        self.assertEqual(told[12], "1" * 12)

    def test_no_word_at_all(self):
        self.assertEqual(words([0, 0]), {})
        self.assertEqual(words([0] * 300), {})

    def test_one_word(self):
        self.assertEqual(words([0, 1]), {1: "0"})
        self.assertEqual(words([1, 0, 0]), {0: "0"})

    def test_one_word_of_another_length(self):
        for length in range(2, 13):
            with self.subTest(length), self.assertRaises(BadLengths):
                words([0, length, 0])

    def test_sum_below_1(self):
        for lengths in ([1, 2], [2, 2, 2], [12, 12], [1, 2, 3], [0, 2, 2, 0], [1, *range(2, 13)]):
            with self.subTest(lengths), self.assertRaises(BadLengths):
                words(lengths)

    def test_sum_above_1(self):
        for lengths in ([1, 1, 1], [1, 1, 12], [1, 2, 2, 2], [2] * 5, [1, *range(1, 13)]):
            with self.subTest(lengths), self.assertRaises(BadLengths):
                words(lengths)

    def test_how_many_numbers(self):
        self.assertEqual(len(words([8] * 256 + [0] * 44)), 256)
        self.assertEqual(len(words([8] * 212 + [9] * 88)), 300)
        for lengths in ([], [1], [0], [0] * 301, [8] * 256 + [0] * 45, [1, 1] + [0] * 299):
            with self.subTest(len(lengths)), self.assertRaises(BadLengths):
                words(lengths)

    def test_numbers_out_of_bounds(self):
        for lengths in ([-1, 1, 1], [1, 1, -1], [13, 0], [1, 1, 13], [*range(1, 13), 13, 13], [10 ** 30, 1, 1],
                        [-10 ** 30, 1, 1], [-1, -1]):
            with self.subTest(lengths), self.assertRaises(BadLengths):
                words(lengths)

    def test_true_and_false_are_no_numbers(self):
        for lengths in ([True, True], [1, True], [True, 1], [1, 1, False], [False, False], [False, 1], [True, False]):
            with self.subTest(lengths), self.assertRaises(BadLengths):
                words(lengths)

    def test_no_numbers(self):
        for one in NO_NUMBERS:
            for lengths in ([one, 1, 1], [1, 1, one]):
                with self.subTest(repr(lengths)), self.assertRaises(BadLengths):
                    words(lengths)

    def test_no_list(self):
        for told in OTHER_KINDS:
            with self.subTest(repr(told)), self.assertRaises(BadLengths):
                words(told)

    def test_all_small_lists(self):
        for lengths in itertools.product(range(5), repeat=4):
            lengths = list(lengths)
            used = sorted(length for length in lengths if length)
            if used in ([], [1]) or fill(lengths) == 4096:
                self.assertEqual(words(lengths), words_by_point_2(lengths))
            else:
                with self.subTest(lengths), self.assertRaises(BadLengths):
                    words(lengths)

    def test_many_lists(self):
        chance = random.Random(2)
        for count in range(60):
            lengths = good_lengths(chance, chance.randrange(2, 290))
            told = words(lengths)
            self.assertEqual(told, words_by_point_2(lengths))
            self.assertEqual(list(told), [letter for letter, length in enumerate(lengths) if length])
            self.assertTrue(all(len(told[letter]) == lengths[letter] for letter in told))
            rising = sorted(told.values())
            self.assertFalse(any(b.startswith(a) for a, b in itertools.pairwise(rising)))

    def test_letters_rise_in_the_dict(self):
        self.assertEqual(list(words([3, 3, 1, 0, 2])), [0, 1, 2, 4])
        self.assertEqual(list(words([12, *range(1, 13)])), list(range(13)))

    def test_nothing_is_changed_or_kept(self):
        lengths = [2, 1, 0, 3, 3]
        told = words(lengths)
        self.assertEqual(lengths, [2, 1, 0, 3, 3])
        lengths[0] = 7
        self.assertEqual(told, {0: "10", 1: "0", 3: "110", 4: "111"})
        told[0] = "0"
        told.pop(1)
        self.assertEqual(words([2, 1, 0, 3, 3]), {0: "10", 1: "0", 3: "110", 4: "111"})

    def test_a_refused_list_stays(self):
        lengths = [1, 2, True]
        self.assertRaises(BadLengths, words, lengths)
        self.assertEqual(repr(lengths), "[1, 2, True]")


class TestLeastLengths(unittest.TestCase):
    def assert_least(self, weights, bound):
        told = least_lengths(weights, bound)
        self.assertIs(type(told), list)
        self.assertEqual([length > 0 for length in told], [weight > 0 for weight in weights])
        self.assertLessEqual(max(told), bound)
        self.assertEqual(cost(weights, told), least_sum(weights, bound), (weights, bound))
        self.assertEqual(told, lengths_by_point_3(weights, bound), (weights, bound))
        self.assertEqual(len(words(told)), len([weight for weight in weights if weight]))

    def test_equal_weights(self):
        self.assertEqual(least_lengths([5, 5], 1), [1, 1])
        self.assertEqual(least_lengths([5] * 4, 2), [2] * 4)
        self.assertEqual(least_lengths([7] * 4, 12), [2] * 4)
        self.assertEqual(sorted(least_lengths([1] * 5, 3)), [2, 2, 2, 3, 3])

    def test_unlike_weights(self):
        self.assertEqual(least_lengths([1, 2, 4, 8], 12), [3, 3, 2, 1])
        self.assertEqual(least_lengths([8, 4, 2, 1], 3), [1, 2, 3, 3])
        self.assertEqual(least_lengths([1, 2, 4, 8], 2), [2, 2, 2, 2])

    def test_noughts_among_them(self):
        self.assertEqual(least_lengths([0, 1, 0, 0, 2, 1, 0], 3), [0, 2, 0, 0, 1, 2, 0])

    def test_one_letter_alone(self):
        for bound in range(1, 13):
            self.assertEqual(least_lengths([0, 9, 0], bound), [0, 1, 0])
        self.assertEqual(least_lengths([1000000, 0], 1), [1, 0])
        self.assertEqual(least_lengths([0] * 299 + [1], 12), [0] * 299 + [1])

    def test_two_letters(self):
        for bound in range(1, 13):
            self.assertEqual(least_lengths([1, 0, 1000000], bound), [1, 0, 1])

    def test_many_letters(self):
        self.assertEqual(least_lengths([3] * 256, 8), [8] * 256)
        chance = random.Random(3)
        for many in (2, 60, 273, 300):
            for bound in (9, 10, 12):
                weights = [chance.choice((0, 1, 1, 2, 5, 30, 1000, 1000000)) for letter in range(many)] or [1, 1]
                weights[0] = 4
                told = least_lengths(weights, bound)
                self.assertEqual(told, lengths_by_point_3(weights, bound))

    def test_all_small_weights_and_all_bounds(self):
        for many in range(2, 5):
            for weights in itertools.product(range(4), repeat=many):
                used = len([weight for weight in weights if weight])
                if used:
                    for bound in [*range((used - 1).bit_length() or 1, 6), 12]:
                        self.assert_least(list(weights), bound)

    def test_weights_at_chance_and_all_bounds(self):
        chance = random.Random(4)
        for count in range(60):
            most = chance.choice((2, 6, 50, 1000000))
            weights = [chance.randrange(most + 1) for letter in range(chance.randrange(2, 14))] + [most]
            used = len([weight for weight in weights if weight])
            for bound in range((used - 1).bit_length() or 1, 13):
                self.assert_least(weights, bound)

    def test_weights_that_press_against_the_bound(self):
        rows = [1, 1]
        while len(rows) < 25:
            rows.append(rows[-1] + rows[-2])
        for many in range(2, 26):
            for bound in range((many - 1).bit_length(), 13):
                self.assert_least(rows[:many], bound)

    def test_of_several_the_ones_that_packages_give(self):
        # With [2, 2, 1, 1] both 2 2 2 2 and 1 2 3 3 would be least: coins go ahead of packages.
        self.assertEqual(least_lengths([2, 2, 1, 1], 12), [2, 2, 2, 2])
        self.assertEqual(least_lengths([1, 1, 2], 2), [2, 2, 1])
        # Of equal coins the first letters are taken first, so these are the longer ones.
        self.assertEqual(least_lengths([1, 1, 1], 12), [2, 2, 1])
        self.assertEqual(least_lengths([3, 3, 3, 3, 3], 3), [3, 3, 2, 2, 2])
        self.assertEqual(least_lengths([1, 1, 1, 2, 2, 3], 12), lengths_by_point_3([1, 1, 1, 2, 2, 3], 12))

    def test_heaviest_weights(self):
        self.assertEqual(least_lengths([1000000, 1000000, 1], 2), [2, 1, 2])
        self.assertEqual(least_lengths([1000000] * 300, 9), lengths_by_point_3([1000000] * 300, 9))

    def test_weights_beyond(self):
        for weights in ([1000001, 1], [1, 1000001], [10 ** 30, 1], [-1, 1], [1, -1], [1, 1, -10 ** 30]):
            with self.subTest(weights), self.assertRaises(BadWeights):
                least_lengths(weights, 12)

    def test_no_weight_above_0(self):
        for weights in ([0, 0], [0] * 300):
            with self.subTest(len(weights)), self.assertRaises(BadWeights):
                least_lengths(weights, 12)

    def test_how_many_weights(self):
        self.assertEqual(least_lengths([0, 1], 1), [0, 1])
        self.assertEqual(len(least_lengths([1] * 300, 9)), 300)
        for weights in ([], [1], [1] * 301, [1] + [0] * 300):
            with self.subTest(len(weights)), self.assertRaises(BadWeights):
                least_lengths(weights, 12)

    def test_no_weights(self):
        for one in NO_NUMBERS:
            for weights in ([one, 1, 1], [1, 1, one]):
                with self.subTest(repr(weights)), self.assertRaises(BadWeights):
                    least_lengths(weights, 12)
        for told in OTHER_KINDS:
            with self.subTest(repr(told)), self.assertRaises(BadWeights):
                least_lengths(told, 12)

    def test_bounds_out_of_bounds(self):
        for bound in (0, 13, -1, 10 ** 30, -10 ** 30):
            # One letter alone needs no more than a bound of 0, which is none.
            for weights in ([1, 1], [1, 0]):
                with self.subTest((weights, bound)), self.assertRaises(BadBound):
                    least_lengths(weights, bound)

    def test_bound_too_small_for_the_letters(self):
        for bound in range(1, 9):
            many = 2 ** bound
            self.assertEqual(least_lengths([1] * many + [0], bound), [bound] * many + [0])
            with self.subTest(bound), self.assertRaises(BadBound):
                least_lengths([1] * (many + 1), bound)
        self.assertRaises(BadBound, least_lengths, [1, 0, 1, 0, 1], 1)

    def test_no_bounds(self):
        for bound in (True, False, None, "1", b"1", [1], (1,), {}, object(), len):
            with self.subTest(repr(bound)), self.assertRaises(BadBound):
                least_lengths([1, 1], bound)
            with self.subTest(repr(bound)), self.assertRaises(BadBound):
                least_lengths([1, 0], bound)

    def test_weights_are_refused_ahead_of_the_bound(self):
        for weights in ([0, 0], [1], [True, 1], [1] * 301, None, [1, -1]):
            for bound in (0, 13, True, None):
                with self.subTest((weights, bound)), self.assertRaises(BadWeights):
                    least_lengths(weights, bound)

    def test_nothing_is_changed_or_kept(self):
        weights = [3, 1, 0, 1, 9]
        told = least_lengths(weights, 4)
        first = list(told)
        self.assertEqual(weights, [3, 1, 0, 1, 9])
        weights[0] = 100
        self.assertEqual(told, first)
        told[0] = 12
        told.append(5)
        self.assertEqual(least_lengths([3, 1, 0, 1, 9], 4), first)

    def test_what_is_refused_stays(self):
        weights = [3, 1, 1]
        self.assertRaises(BadBound, least_lengths, weights, 1)
        self.assertEqual(weights, [3, 1, 1])


if __name__ == "__main__":
    unittest.main()
