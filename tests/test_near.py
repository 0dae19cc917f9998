import unittest
from copy import deepcopy

from suffixhouse.errors import OutOfRange
from suffixhouse.misprints.near import near_places, nearest
from raising import RaisingTest
from reckoning import few_houses, large_houses, plain_distance, plain_places, words_of

HOUSE = [(2, "aba"), (5, "b")]
GREAT = 10 ** 6000
WORDS = ["", "a", "b", "ab", "bb", "cab", "abab", "1a", "x", "~", "aabbaab", "c" * 9]


def plain_near(house, word):
    """Return all tuples of point 606 for any number of changes, ascending."""
    return [
        (number, start, stop, plain_distance(text[start:stop], word))
        for number, text in house
        for start in range(len(text) + 1)
        for stop in range(start, len(text) + 1)
    ]


class NearPlacesTest(RaisingTest):
    def test_by_hand(self):
        self.assertEqual(near_places(HOUSE, "ab", 0), [(2, 0, 2, 0)])
        self.assertEqual(near_places(HOUSE, "ab", 1), [
            (2, 0, 1, 1), (2, 0, 2, 0), (2, 0, 3, 1), (2, 1, 2, 1), (2, 2, 3, 1), (5, 0, 1, 1),
        ])
        self.assertEqual(near_places([(7, "b")], "a", 1), [(7, 0, 0, 1), (7, 0, 1, 1), (7, 1, 1, 1)])
        self.assertEqual(near_places([(7, "b")], "a", 0), [])

    def test_stretches_without_letters(self):
        self.assertEqual(near_places([(3, ""), (4, "")], "", 0), [(3, 0, 0, 0), (4, 0, 0, 0)])
        self.assertEqual(near_places([(3, "")], "abc", 2), [])
        self.assertEqual(near_places([(3, "")], "abc", 3), [(3, 0, 0, 3)])
        self.assertEqual(near_places([(3, "xy")], "", 0), [(3, 0, 0, 0), (3, 1, 1, 0), (3, 2, 2, 0)])
        self.assertEqual(near_places([(3, "xy")], "", 1), [
            (3, 0, 0, 0), (3, 0, 1, 1), (3, 1, 1, 0), (3, 1, 2, 1), (3, 2, 2, 0),
        ])

    def test_empty_house(self):
        for word in WORDS:
            for most in range(4):
                self.assertEqual(near_places([], word, most), [])

    def test_without_changes(self):
        for house in few_houses():
            for word in WORDS:
                expected = [(number, start, start + len(word), 0) for number, start in plain_places(house, word)]
                self.assertEqual(near_places(house, word, 0), expected)

    def test_all_houses(self):
        for house in few_houses():
            for word in WORDS:
                every = plain_near(house, word)
                for most in range(4):
                    expected = [place for place in every if place[3] <= most]
                    self.assertEqual(near_places(house, word, most), expected, (house, word, most))

    def test_all_short_words(self):
        for house in [HOUSE, [(0, ""), (1, "abb")], [(8, "cabac"), (99, "bb")]]:
            for word in words_of("abc", 4):
                every = plain_near(house, word)
                for most in range(4):
                    self.assertEqual(near_places(house, word, most), [row for row in every if row[3] <= most])

    def test_large_houses(self):
        for house in large_houses():
            text = house[3][1]
            for word in [text[5:12], text[:4] + "~" + text[5:8], text[20:23] + "a" + text[23:27]]:
                every = plain_near(house, word)
                for most in range(4):
                    self.assertEqual(near_places(house, word, most), [row for row in every if row[3] <= most])

    def test_long_words(self):
        for house in [[(9, "ab" * 20)], [(9, "a" * 40)], [(9, "abcde" * 8)]]:
            for word in ["ab" * 20, "ba" * 20, "a" * 40, "abcde" * 7 + "abced", "abcde" * 8]:
                every = plain_near(house, word)
                for most in range(4):
                    self.assertEqual(near_places(house, word, most), [row for row in every if row[3] <= most])

    def test_out_of_range(self):
        for house in [[], [(3, "")], HOUSE]:
            for word in ["", "ab", "a" * 40]:
                for most in [4, 5, 40, 2 ** 32 - 1, 2 ** 32, GREAT, -1, -3, -(2 ** 32), -GREAT]:
                    self.assert_raises(OutOfRange, most, near_places, house, word, most)

    def test_new_each_time(self):
        for house in [[], [(3, "")], HOUSE]:
            before = deepcopy(house)
            found = near_places(house, "a", 3)
            told = list(found)
            self.assertIs(type(found), list)
            for place in found:
                self.assertIs(type(place), tuple)
                self.assertEqual([type(value) for value in place], [int] * 4)
            found.append("more")
            self.assertEqual(near_places(house, "a", 3), told)
            self.assertEqual(house, before)


class NearestTest(RaisingTest):
    def test_by_hand(self):
        self.assertEqual(nearest(HOUSE, "ab"), (2, 0, 2, 0))
        self.assertEqual(nearest(HOUSE, "b"), (2, 1, 2, 0))
        self.assertEqual(nearest(HOUSE, "bb"), (2, 0, 2, 1))
        self.assertEqual(nearest(HOUSE, "c"), (2, 0, 0, 1))
        self.assertEqual(nearest([(1, "xxx"), (2, "abc")], "abd"), (2, 0, 2, 1))

    def test_empty_house(self):
        for word in WORDS:
            self.assertIsNone(nearest([], word))

    def test_empty_word_and_empty_texts(self):
        for house in few_houses():
            if house:
                self.assertEqual(nearest(house, ""), (house[0][0], 0, 0, 0))
        self.assertEqual(nearest([(3, ""), (4, "")], "abc"), (3, 0, 0, 3))

    def test_more_changes_than_three(self):
        self.assertEqual(nearest([(3, "")], "a" * 40), (3, 0, 0, 40))
        self.assertEqual(nearest([(3, "x" * 40)], "a" * 40), (3, 0, 0, 40))
        self.assertEqual(nearest([(3, "xxxa"), (4, "aa")], "a" * 9), (4, 0, 2, 7))

    def test_all_houses(self):
        for house in few_houses():
            for word in WORDS:
                expected = min(plain_near(house, word), key=lambda row: (row[3], row[:3]), default=None)
                self.assertEqual(nearest(house, word), expected, (house, word))

    def test_large_houses(self):
        for house in large_houses():
            text = house[3][1]
            for word in [text[5:12], text[:4] + "~" + text[5:8], "z" * 6, text[10:14] * 2]:
                expected = min(plain_near(house, word), key=lambda row: (row[3], row[:3]))
                self.assertEqual(nearest(house, word), expected)

    def test_long_words(self):
        for house in [[(9, "ab" * 20)], [(9, "abcde" * 8)]]:
            for word in ["ba" * 20, "a" * 40, "edcba" * 8]:
                expected = min(plain_near(house, word), key=lambda row: (row[3], row[:3]))
                self.assertEqual(nearest(house, word), expected)

    def test_what_is_passed_in_stays(self):
        house = deepcopy(HOUSE)
        found = nearest(house, "ab")
        self.assertIs(type(found), tuple)
        self.assertEqual([type(value) for value in found], [int] * 4)
        self.assertEqual(house, HOUSE)


if __name__ == "__main__":
    unittest.main()
