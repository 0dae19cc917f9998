import unittest
from copy import deepcopy
from itertools import product

from suffixhouse.answers.words import absent_words, shortest_single, stretch_counts
from suffixhouse.errors import NoText, OutOfRange
from suffixhouse.texts.scans import places
from raising import RaisingTest
from reckoning import few_houses, large_houses, mixed_houses, places_of_words, plain_single, small_houses, words_of

HOUSE = [(2, "aba"), (5, "b")]
EVERY_LETTER = "".join(chr(code) for code in range(32, 127) if code != 37)
GREAT = 10 ** 6000


def absent_by_parts(house, alphabet):
    """Return the least absent words by point 403: all shorter words in them are stretches."""
    stretches = set(places_of_words(house))
    longest = max([len(text) for _, text in house], default=0)
    found = []
    for size in range(1, longest + 2):
        for letters in product(sorted(alphabet), repeat=size):
            word = "".join(letters)
            shorter = {word[i:j] for i in range(size) for j in range(i + 1, size + 1)} - {word}
            if word not in stretches and shorter <= stretches:
                found.append(word)
    return found


def absent_by_ends(house, alphabet):
    """Return the same from the stretches, with each letter before each one: for large houses."""
    stretches = set(places_of_words(house))
    found = {letter for letter in alphabet} - stretches
    for word in stretches:
        for letter in alphabet:
            longer = letter + word
            if set(longer) <= set(alphabet) and longer not in stretches and longer[:-1] in stretches:
                found.add(longer)
    return sorted(found, key=lambda word: (len(word), word))


class AbsentWordsTest(RaisingTest):
    def test_by_hand(self):
        self.assertEqual(absent_words(HOUSE, "ab"), ["aa", "bb", "bab"])
        self.assertEqual(absent_words(HOUSE, "abc"), ["c", "aa", "bb", "bab"])
        self.assertEqual(absent_words(HOUSE, "a"), ["aa"])
        self.assertEqual(absent_words(HOUSE, "cd"), ["c", "d"])
        self.assertEqual(absent_words([(1, "ab")], "ab"), ["aa", "ba", "bb"])

    def test_one_letter_more_than_the_longest_text(self):
        for size in [1, 2, 39, 40]:
            self.assertEqual(absent_words([(1, "a" * size)], "a"), ["a" * (size + 1)])
        self.assertEqual(absent_words([(1, "aa"), (2, "b")], "ba"), ["ab", "ba", "bb", "aaa"])

    def test_empty_house_and_empty_texts(self):
        for house in [[], [(3, "")], [(3, ""), (7, "")]]:
            self.assertEqual(absent_words(house, "~b a"), [" ", "a", "b", "~"])
            self.assertEqual(absent_words(house, "b"), ["b"])
            self.assertEqual(absent_words(house, EVERY_LETTER), sorted(EVERY_LETTER))

    def test_order_of_the_alphabet_does_not_count(self):
        for house in [HOUSE, [(1, "cab"), (2, "bb a")]]:
            for alphabet in ["abc", "cba", "bac"]:
                self.assertEqual(absent_words(house, alphabet), absent_words(house, "acb"))

    def test_only_words_over_the_alphabet(self):
        # "axb" is a stretch, but "x" is no letter of the alphabet.
        self.assertEqual(absent_words([(1, "axb"), (2, "ab")], "ab"), ["aa", "ba", "bb"])
        self.assertEqual(absent_words([(1, "xx")], "a"), ["a"])

    def test_small_houses(self):
        for house in list(small_houses())[::3]:
            if max(len(text) for _, text in house) < 6:
                for alphabet in ["ab", "ca"]:
                    self.assertEqual(absent_words(house, alphabet), absent_by_parts(house, alphabet), house)
        for text in words_of("abc", 3):
            self.assertEqual(absent_words([(0, text)], "cab"), absent_by_parts([(0, text)], "cab"))

    def test_plain_searches_agree(self):
        for house in list(small_houses())[::29]:
            if max(len(text) for _, text in house) < 6:
                self.assertEqual(absent_by_parts(house, "ab"), absent_by_ends(house, "ab"))

    def test_all_houses(self):
        for house in [*few_houses(), *mixed_houses()]:
            for alphabet in ["ab", "cba", "~ :1a", "9876543210"]:
                self.assertEqual(absent_words(house, alphabet), absent_by_ends(house, alphabet), house)

    def test_large_houses(self):
        for house in large_houses():
            for alphabet in ["ab", "c~a", EVERY_LETTER[::-1]]:
                self.assertEqual(absent_words(house, alphabet), absent_by_ends(house, alphabet), house)

    def test_each_absent_word_contains_one(self):
        for house in list(small_houses())[::11]:
            found = absent_words(house, "ab")
            for word in words_of("ab", 5)[1:]:
                self.assertEqual(places(house, word) == [], any(part in word for part in found), (house, word))

    def test_wrong_alphabets(self):
        for house in [[], [(3, "")], HOUSE]:
            for alphabet in ["", "aa", "aba", "abca", "  ", "~ab~", EVERY_LETTER + "a", EVERY_LETTER * 2]:
                self.assert_raises(OutOfRange, 0, absent_words, house, alphabet)


class ShortestSingleTest(RaisingTest):
    def test_by_hand(self):
        self.assertEqual(shortest_single(HOUSE, 2, 0), (0, 2))
        self.assertEqual(shortest_single(HOUSE, 2, 1), (0, 2))
        self.assertEqual(shortest_single(HOUSE, 2, 2), (1, 3))
        self.assertIsNone(shortest_single(HOUSE, 5, 0))

    def test_one_letter(self):
        self.assertEqual(shortest_single([(1, "aba"), (2, "a")], 1, 1), (1, 2))
        self.assertEqual(shortest_single([(1, "a")], 1, 0), (0, 1))

    def test_least_start(self):
        # "ba" and "ab" are single and over the letter in the middle.
        self.assertEqual(shortest_single([(1, "abcabd"), (2, "ab")], 1, 1), (1, 3))
        self.assertEqual(shortest_single([(1, "cac"), (2, "a"), (3, "c")], 1, 1), (0, 2))

    def test_whole_text(self):
        self.assertEqual(shortest_single([(1, "aa"), (2, "a")], 1, 0), (0, 2))
        self.assertEqual(shortest_single([(1, "aa"), (2, "a")], 1, 1), (0, 2))
        self.assertEqual(shortest_single([(1, "a" * 40)], 1, 17), (0, 40))

    def test_none(self):
        for index in range(3):
            self.assertIsNone(shortest_single([(1, "aba"), (2, "aba")], 1, index))
            self.assertIsNone(shortest_single([(1, "aba"), (2, "xabax")], 1, index))
        # It stands elsewhere in another text only, not in its own one.
        self.assertEqual(shortest_single([(1, "aba"), (2, "xabax")], 2, 2), (0, 3))

    def test_own_text_counts_too(self):
        self.assertEqual(shortest_single([(1, "abab")], 1, 0), (0, 3))
        self.assertEqual(shortest_single([(1, "abab")], 1, 1), (1, 3))

    def test_all_houses(self):
        for house in [*few_houses(), *small_houses()]:
            for number, text in house:
                for index in range(len(text)):
                    expected = plain_single(house, number, index)
                    self.assertEqual(shortest_single(house, number, index), expected, (house, number, index))

    def test_large_houses(self):
        for house in large_houses():
            for number, _ in house[::3]:
                for index in [0, 1, 19, 20, 38, 39]:
                    expected = plain_single(house, number, index)
                    self.assertEqual(shortest_single(house, number, index), expected, (house, number, index))

    def test_no_text(self):
        for number in [0, 1, 3, 4, 6, 99, 100, -1, 2 ** 32, GREAT, -GREAT]:
            # This error comes first, whatever the index is.
            for index in [0, 2, 3, -1, GREAT, -GREAT]:
                self.assert_raises(NoText, number, shortest_single, HOUSE, number, index)
        self.assert_raises(NoText, 0, shortest_single, [], 0, 0)

    def test_no_letter(self):
        for index in [3, 4, 40, 2 ** 32, GREAT, -1, -2, -3, -4, -GREAT]:
            self.assert_raises(OutOfRange, index, shortest_single, HOUSE, 2, index)
        for index in [1, -1, 2]:
            self.assert_raises(OutOfRange, index, shortest_single, HOUSE, 5, index)
        for index in [0, 1, -1]:
            self.assert_raises(OutOfRange, index, shortest_single, [(7, "")], 7, index)


class StretchCountsTest(RaisingTest):
    def test_by_hand(self):
        self.assertEqual(stretch_counts(HOUSE), [2, 2, 1])
        self.assertEqual(stretch_counts([(1, "aa"), (2, "bcd")]), [4, 3, 1])
        self.assertEqual(stretch_counts([(1, "a" * 40)]), [1] * 40)
        self.assertEqual(stretch_counts([(1, EVERY_LETTER[:40])]), list(range(40, 0, -1)))

    def test_no_stretches(self):
        for house in [[], [(3, "")], [(3, ""), (4, "")]]:
            self.assertEqual(stretch_counts(house), [])

    def test_all_houses(self):
        for house in [*few_houses(), *small_houses(), *mixed_houses(), *large_houses()]:
            words = list(places_of_words(house))
            longest = max([len(text) for _, text in house], default=0)
            expected = [sum(len(word) == size for word in words) for size in range(1, longest + 1)]
            self.assertEqual(stretch_counts(house), expected, house)


class WhatIsPassedInStaysTest(unittest.TestCase):
    def test_houses_stay_and_answers_are_new(self):
        for house in [[], [(3, "")], HOUSE, [(1, "aa"), (2, "aa")]]:
            before = deepcopy(house)
            for ask in [lambda: absent_words(house, "abx"), lambda: stretch_counts(house)]:
                found = ask()
                self.assertIs(type(found), list)
                told = list(found)
                found.append("more")
                self.assertEqual(ask(), told)
                self.assertEqual(house, before)

    def test_single_leaves_the_house(self):
        house = deepcopy(HOUSE)
        found = shortest_single(house, 2, 1)
        self.assertIs(type(found), tuple)
        self.assertEqual([type(index) for index in found], [int, int])
        self.assertEqual(house, HOUSE)


if __name__ == "__main__":
    unittest.main()
