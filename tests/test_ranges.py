import unittest
from copy import deepcopy
from itertools import product

from suffixhouse.ends.ranges import least_common, order_with, order_without, range_of, stretch_count
from suffixhouse.errors import BadText, NoText, OutOfRange, TakenNumber, TooMany
from raising import RaisingTest
from reckoning import (
    large_houses, letters_of, mixed_houses, plain_common, plain_commons, plain_order, plain_range,
    plain_stretches, small_houses, words_near, words_of,
)

PERCENT = chr(37)
HOUSE = [(2, "aba"), (5, "b")]
ORDER = [(2, 3), (5, 1), (2, 2), (2, 0), (5, 0), (2, 1)]
COMMONS = [0, 0, 0, 1, 0, 1]
FULL = [(number, "abc"[:number % 4]) for number in range(0, 80, 10)]
TEXTS = ["", "a", "b", "ab", "aba", "abab", " ", "~", "zz", "a" * 40, "ab" * 20, "aba" + "~" * 37]


def houses():
    """Yield houses of all kinds, not too many."""
    yield from [[], [(4, "")], [(4, ""), (6, "")], HOUSE, [(1, "aa"), (2, "aa")]]
    yield from list(small_houses())[::7]
    yield from list(mixed_houses())[::3]
    yield from large_houses()


class RangeOfTest(RaisingTest):
    def test_by_hand(self):
        for word, found in [
            ("", (0, 6)), ("a", (2, 4)), ("ab", (3, 4)), ("aba", (3, 4)), ("b", (4, 6)), ("ba", (5, 6)),
        ]:
            self.assertEqual(range_of(HOUSE, ORDER, word), found, word)

    def test_no_end_begins_with_it(self):
        for word, before in [
            (" ", 2), ("A", 2), ("aa", 3), ("ab ", 3), ("abb", 4), ("abab", 4), ("ac", 4), ("b ", 5), ("b~", 6),
            ("bb", 6), ("bab", 6), ("c", 6), ("~", 6), ("~" * 60, 6), ("a" * 60, 3),
        ]:
            self.assertEqual(range_of(HOUSE, ORDER, word), (before, before), word)

    def test_empty_word(self):
        for house in houses():
            order = plain_order(house)
            self.assertEqual(range_of(house, order, ""), (0, len(order)))

    def test_empty_house_and_empty_texts(self):
        for word in ["", "a", "~" * 60]:
            self.assertEqual(range_of([], [], word), (0, 0))
        self.assertEqual(range_of([(4, ""), (6, "")], [(4, 0), (6, 0)], ""), (0, 2))
        self.assertEqual(range_of([(4, ""), (6, "")], [(4, 0), (6, 0)], " "), (2, 2))

    def test_before_and_behind_all_ends(self):
        # Only the ends without letters come before all words.
        for house in [HOUSE, FULL]:
            order = plain_order(house)
            self.assertEqual(range_of(house, order, " "), (len(house), len(house)))
            self.assertEqual(range_of(house, order, "~"), (len(order), len(order)))

    def test_all_words(self):
        for house in houses():
            order = plain_order(house)
            for word in words_near(house):
                self.assertEqual(range_of(house, order, word), plain_range(house, word), (house, word))

    def test_short_words(self):
        for house in list(small_houses())[::5]:
            order = plain_order(house)
            for word in words_of("abc", 3):
                self.assertEqual(range_of(house, order, word), plain_range(house, word), (house, word))

    def test_all_stretches(self):
        for house in [HOUSE, *list(mixed_houses())[::15]]:
            order = plain_order(house)
            for word in plain_stretches(house):
                first, stop = range_of(house, order, word)
                told = [letters_of(house, end).startswith(word) for end in order]
                self.assertEqual([at for at, begins in enumerate(told) if begins], list(range(first, stop)))
                self.assertLess(first, stop)

    def test_kinds_of_values(self):
        found = range_of(HOUSE, ORDER, "a")
        self.assertIs(type(found), tuple)
        self.assertEqual([type(number) for number in found], [int, int])


class StretchCountTest(RaisingTest):
    def test_by_hand(self):
        self.assertEqual(stretch_count(HOUSE, ORDER, COMMONS), 5)
        self.assertEqual(stretch_count([], [], []), 0)
        self.assertEqual(stretch_count([(4, "")], [(4, 0)], [0]), 0)
        self.assertEqual(stretch_count([(4, ""), (6, "")], [(4, 0), (6, 0)], [0, 0]), 0)

    def test_counted_one_by_one(self):
        for house in [*houses(), *mixed_houses()]:
            found = stretch_count(house, plain_order(house), plain_commons(house))
            self.assertEqual(found, len(plain_stretches(house)), house)


class LeastCommonTest(RaisingTest):
    def test_by_hand(self):
        self.assertEqual(least_common(COMMONS, 2, 3), 1)
        self.assertEqual(least_common(COMMONS, 2, 4), 0)
        self.assertEqual(least_common(COMMONS, 0, 5), 0)
        self.assertEqual(least_common([0, 5, 3, 4], 0, 1), 5)
        self.assertEqual(least_common([0, 5, 3, 4], 0, 2), 3)
        self.assertEqual(least_common([0, 5, 3, 4], 0, 3), 3)
        self.assertEqual(least_common([0, 5, 3, 4], 2, 3), 4)

    def test_all_pairs_of_indexes(self):
        for house in [HOUSE, *list(mixed_houses())[::10], *list(small_houses())[::30]]:
            order, commons = plain_order(house), plain_commons(house)
            for j in range(len(order)):
                for i in range(j):
                    self.assertEqual(least_common(commons, i, j), plain_common(house, order[i], order[j]))
            self.assertEqual(commons, plain_commons(house))

    def test_pairs_in_large_houses(self):
        for house in large_houses():
            order, commons = plain_order(house), plain_commons(house)
            for i in range(0, len(order), 13):
                for j in range(i + 1, len(order), 17):
                    self.assertEqual(least_common(commons, i, j), plain_common(house, order[i], order[j]))

    def test_out_of_range(self):
        great = 10 ** 6000
        for i, j in [
            (0, 0), (3, 3), (5, 5), (1, 0), (5, 4), (5, 0), (-1, 0), (-1, 3), (-6, 5), (-great, 2), (-2, -1),
            (0, 6), (5, 6), (0, 7), (6, 7), (0, great), (great, great + 1), (4, -1), (0, -1), (-3, 9), (6, 6),
        ]:
            self.assert_raises(OutOfRange, 0, least_common, COMMONS, i, j)
        for i, j in product(range(-2, 3), repeat=2):
            self.assert_raises(OutOfRange, 0, least_common, [], i, j)
            self.assert_raises(OutOfRange, 0, least_common, [0], i, j)


class OrderWithTest(RaisingTest):
    def test_by_hand(self):
        self.assertEqual(order_with([], [], 0, ""), [(0, 0)])
        self.assertEqual(order_with([], [], 99, "ba"), [(99, 2), (99, 1), (99, 0)])
        self.assertEqual(order_with([(5, "b")], [(5, 1), (5, 0)], 2, "aba"), ORDER)
        self.assertEqual(order_with([(2, "aba")], [(2, 3), (2, 2), (2, 0), (2, 1)], 5, "b"), ORDER)
        self.assertEqual(order_with([(2, "a")], [(2, 1), (2, 0)], 1, "a"), [(1, 1), (2, 1), (1, 0), (2, 0)])
        self.assertEqual(order_with([(2, "a")], [(2, 1), (2, 0)], 3, "a"), [(2, 1), (3, 1), (2, 0), (3, 0)])

    def test_order_of_the_new_house(self):
        for house in [house for house in houses() if len(house) < 8]:
            numbers = [number for number in (0, 3, 8, 11, 55, 99) if number not in dict(house)]
            for at, text in enumerate(TEXTS + [text for _, text in house]):
                number = numbers[at % len(numbers)]
                order = plain_order(house)
                before = deepcopy((house, order))
                new = sorted([*house, (number, text)])
                self.assertEqual(order_with(house, order, number, text), plain_order(new), new)
                self.assertEqual((house, order), before)

    def test_new_each_time(self):
        house, order = [(5, "b")], [(5, 1), (5, 0)]
        found = order_with(house, order, 2, "aba")
        found.clear()
        self.assertEqual((house, order), ([(5, "b")], [(5, 1), (5, 0)]))
        self.assertEqual(order_with(house, order, 2, "aba"), ORDER)

    def test_errors(self):
        for number in [-1, 100, 2 ** 32, -(10 ** 6000), 10 ** 6000]:
            self.assert_raises(OutOfRange, number, order_with, HOUSE, ORDER, number, "a")
        self.assert_raises(TakenNumber, 2, order_with, HOUSE, ORDER, 2, "a")
        self.assert_raises(TakenNumber, 5, order_with, HOUSE, ORDER, 5, "b")
        for text in ["x" * 41, "x" * 1000, PERCENT, "a\n", "\0", chr(127), "\u00e4"]:
            self.assert_raises(BadText, 3, order_with, HOUSE, ORDER, 3, text)
        self.assert_raises(TooMany, 99, order_with, FULL, plain_order(FULL), 99, "")

    def test_first_error_in_order(self):
        order = plain_order(FULL)
        self.assert_raises(OutOfRange, 100, order_with, FULL, order, 100, "x" * 41)
        self.assert_raises(OutOfRange, -1, order_with, FULL, order, -1, "a")
        self.assert_raises(OutOfRange, -1, order_with, HOUSE, ORDER, -1, PERCENT)
        self.assert_raises(TakenNumber, 10, order_with, FULL, order, 10, "x" * 41)
        self.assert_raises(TakenNumber, 10, order_with, FULL, order, 10, "a")
        self.assert_raises(BadText, 11, order_with, FULL, order, 11, "x" * 41)


class OrderWithoutTest(RaisingTest):
    def test_by_hand(self):
        self.assertEqual(order_without(HOUSE, ORDER, 5), [(2, 3), (2, 2), (2, 0), (2, 1)])
        self.assertEqual(order_without(HOUSE, ORDER, 2), [(5, 1), (5, 0)])
        self.assertEqual(order_without([(4, "")], [(4, 0)], 4), [])

    def test_order_of_the_new_house(self):
        for house in houses():
            for number, _ in house:
                order = plain_order(house)
                before = deepcopy((house, order))
                new = [pair for pair in house if pair[0] != number]
                self.assertEqual(order_without(house, order, number), plain_order(new), new)
                self.assertEqual((house, order), before)

    def test_undoes_order_with(self):
        for text in TEXTS:
            self.assertEqual(order_without([*HOUSE, (7, text)], order_with(HOUSE, ORDER, 7, text), 7), ORDER)

    def test_new_each_time(self):
        found = order_without(HOUSE, list(ORDER), 5)
        found.clear()
        self.assertEqual(order_without(HOUSE, ORDER, 5), [(2, 3), (2, 2), (2, 0), (2, 1)])

    def test_no_text(self):
        for number in [0, 1, 3, 6, 99, 100, -1, 2 ** 32, 10 ** 6000, -(10 ** 6000)]:
            self.assert_raises(NoText, number, order_without, HOUSE, ORDER, number)
        self.assert_raises(NoText, 0, order_without, [], [], 0)


class WhatIsPassedInStaysTest(RaisingTest):
    def test_what_is_passed_in_stays(self):
        house, order, commons = deepcopy((HOUSE, ORDER, COMMONS))
        for word in ["", "a", "zz"]:
            range_of(house, order, word)
        stretch_count(house, order, commons)
        least_common(commons, 1, 4)
        self.assertEqual((house, order, commons), (HOUSE, ORDER, COMMONS))


if __name__ == "__main__":
    unittest.main()
