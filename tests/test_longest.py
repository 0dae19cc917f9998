import unittest
from copy import deepcopy

from suffixhouse.answers.longest import longest_repeated, longest_shared
from suffixhouse.errors import OutOfRange
from raising import RaisingTest
from reckoning import few_houses, large_houses, mixed_houses, plain_repeated, plain_shared, small_houses

HOUSE = [(2, "aba"), (5, "b")]
GREAT = 10 ** 6000
BELOW = [0, -1, -(2 ** 32), -GREAT]


class LongestRepeatedTest(RaisingTest):
    def test_by_hand(self):
        for least, found in [(1, "aba"), (2, "a"), (3, None), (2 ** 32 - 1, None)]:
            self.assertEqual(longest_repeated(HOUSE, least), found)
        self.assertEqual(longest_repeated([(1, "banana")], 2), "ana")
        self.assertEqual(longest_repeated([(1, "banana")], 3), "a")
        self.assertIsNone(longest_repeated([(1, "banana")], 4))

    def test_places_may_overlap(self):
        for least, found in [(1, "aaaa"), (2, "aaa"), (3, "aa"), (4, "a"), (5, None)]:
            self.assertEqual(longest_repeated([(7, "aaaa")], least), found)

    def test_several_times_in_one_text_and_in_several_texts(self):
        self.assertEqual(longest_repeated([(1, "abab")], 2), "ab")
        self.assertEqual(longest_repeated([(1, "ab"), (2, "ab")], 2), "ab")
        self.assertEqual(longest_repeated([(1, "abab"), (2, "ab")], 3), "ab")

    def test_first_one_as_texts(self):
        self.assertEqual(longest_repeated([(1, "cd"), (2, "ab")], 1), "ab")
        self.assertEqual(longest_repeated([(1, "b~b A a~A ")], 2), "A ")
        # The longer one, though it comes later.
        self.assertEqual(longest_repeated([(1, "aa"), (2, "zyx"), (3, "zy")], 2), "zy")

    def test_none(self):
        for house in [[], [(3, "")], [(3, ""), (4, "")]]:
            for least in [1, 2, 6, GREAT]:
                self.assertIsNone(longest_repeated(house, least))

    def test_all_houses(self):
        for house in [*few_houses(), *small_houses(), *mixed_houses()]:
            for least in range(1, 7):
                self.assertEqual(longest_repeated(house, least), plain_repeated(house, least), (house, least))

    def test_large_houses(self):
        for house in large_houses():
            for least in [1, 2, 3, 7, 8, 9, 16, 100, 313, 320, 321]:
                self.assertEqual(longest_repeated(house, least), plain_repeated(house, least), (house, least))

    def test_below_one(self):
        for house in [[], [(3, "")], HOUSE]:
            for least in BELOW:
                self.assert_raises(OutOfRange, 0, longest_repeated, house, least)


class LongestSharedTest(RaisingTest):
    def test_by_hand(self):
        for least, found in [(1, "aba"), (2, "b"), (3, None), (2 ** 32 - 1, None)]:
            self.assertEqual(longest_shared(HOUSE, least), found)
        house = [(1, "xabcy"), (2, "zabc"), (3, "bcx")]
        for least, found in [(1, "xabcy"), (2, "abc"), (3, "bc"), (4, None)]:
            self.assertEqual(longest_shared(house, least), found)

    def test_several_places_in_one_text_count_once(self):
        self.assertIsNone(longest_shared([(1, "aaaa")], 2))
        self.assertEqual(longest_shared([(1, "aaaa"), (2, "ba")], 2), "a")
        self.assertIsNone(longest_shared([(1, "aaaa"), (2, "ba")], 3))

    def test_equal_texts(self):
        house = [(number, "xyz") for number in range(8)]
        self.assertEqual(longest_shared(house, 8), "xyz")
        self.assertIsNone(longest_shared(house, 9))
        self.assertIsNone(longest_shared([*house[:7], (9, "")], 8))

    def test_first_one_as_texts(self):
        self.assertEqual(longest_shared([(1, "cd"), (2, "ab")], 1), "ab")
        self.assertEqual(longest_shared([(1, "b~A "), (2, "A b~")], 2), "A ")
        self.assertEqual(longest_shared([(1, "a1zy"), (2, "zy2a")], 2), "zy")

    def test_none(self):
        for house in [[], [(3, "")], [(3, ""), (4, "")]]:
            for least in [1, 2, 6, GREAT]:
                self.assertIsNone(longest_shared(house, least))

    def test_all_houses(self):
        for house in [*few_houses(), *small_houses(), *mixed_houses()]:
            for least in range(1, 10):
                self.assertEqual(longest_shared(house, least), plain_shared(house, least), (house, least))

    def test_large_houses(self):
        for house in large_houses():
            for least in [1, 2, 3, 7, 8, 9]:
                self.assertEqual(longest_shared(house, least), plain_shared(house, least), (house, least))

    def test_below_one(self):
        for house in [[], [(3, "")], HOUSE]:
            for least in BELOW:
                self.assert_raises(OutOfRange, 0, longest_shared, house, least)


class WhatIsPassedInStaysTest(unittest.TestCase):
    def test_houses_stay(self):
        for house in few_houses():
            before = deepcopy(house)
            for least in [1, 2, 3]:
                for function in [longest_repeated, longest_shared]:
                    self.assertIn(type(function(house, least)), [str, type(None)])
                    self.assertEqual(house, before)


if __name__ == "__main__":
    unittest.main()
