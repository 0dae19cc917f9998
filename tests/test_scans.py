import unittest
from copy import deepcopy

from suffixhouse.texts import scans
from suffixhouse.texts.scans import count, ends, ends_at, next_letters, next_marks, places, stretches
from reckoning import (
    large_houses, mixed_houses, plain_ends, plain_places, plain_stretches, small_houses, words_near, words_of,
)

HOUSE = [(2, "aba"), (5, "b")]
EQUAL = [(0, "xyx"), (4, ""), (9, "xyx")]
EVERY_LETTER = [chr(code) for code in range(32, 127) if code != 37]


def houses():
    """Yield houses of all kinds, not too many."""
    yield from [[], [(4, "")], [(4, ""), (6, "")], HOUSE, EQUAL]
    yield from list(small_houses())[::7]
    yield from list(mixed_houses())[::5]
    yield from large_houses()


class PlacesTest(unittest.TestCase):
    def assert_places(self, house, word, expected):
        """All three functions that tell of places tell the expected ones."""
        self.assertEqual(places(house, word), expected, (house, word))
        self.assertEqual(ends_at(house, word), [(number, start + len(word)) for number, start in expected])
        self.assertEqual(count(house, word), len(expected))

    def test_by_hand(self):
        self.assertEqual(places(HOUSE, "b"), [(2, 1), (5, 0)])
        self.assertEqual(ends_at(HOUSE, "b"), [(2, 2), (5, 1)])
        self.assertEqual(count(HOUSE, "b"), 2)
        self.assert_places(HOUSE, "a", [(2, 0), (2, 2)])
        self.assert_places(HOUSE, "ab", [(2, 0)])
        self.assert_places(HOUSE, "ba", [(2, 1)])

    def test_empty_house(self):
        for word in ["", "a", " ", "0", "a" * 60]:
            self.assert_places([], word, [])

    def test_empty_word(self):
        self.assert_places([(7, "")], "", [(7, 0)])
        self.assert_places([(7, ""), (8, "")], "", [(7, 0), (8, 0)])
        self.assert_places(HOUSE, "", [(2, 0), (2, 1), (2, 2), (2, 3), (5, 0), (5, 1)])
        for house in large_houses():
            expected = [(number, start) for number, text in house for start in range(41)]
            self.assert_places(house, "", expected)

    def test_whole_and_equal_texts(self):
        self.assert_places(EQUAL, "xyx", [(0, 0), (9, 0)])
        self.assert_places(EQUAL, "x", [(0, 0), (0, 2), (9, 0), (9, 2)])
        for house in large_houses():
            for number, text in house:
                self.assertIn((number, 0), places(house, text))
                self.assert_places(house, text, plain_places(house, text))

    def test_places_that_overlap(self):
        self.assert_places([(1, "aaaa")], "aa", [(1, 0), (1, 1), (1, 2)])
        self.assert_places([(1, "ababa")], "aba", [(1, 0), (1, 2)])
        self.assert_places([(1, "a" * 40)], "a" * 38, [(1, 0), (1, 1), (1, 2)])

    def test_longer_than_all_texts(self):
        self.assert_places(HOUSE, "abab", [])
        self.assert_places([(1, "")], "a", [])
        for house in large_houses():
            for _, text in house:
                for word in [text + text[0], text[0] + text, text + text[:20], "a" * 41, "a" * 60]:
                    self.assert_places(house, word, [])

    def test_letters_are_told_apart(self):
        self.assert_places([(1, "aA")], "A", [(1, 1)])
        self.assert_places([(1, "a.b")], "a.", [(1, 0)])
        self.assert_places([(1, "axb")], "a.", [])
        self.assert_places([(3, "3"), (4, "")], "3", [(3, 0)])
        for letter in EVERY_LETTER:
            self.assert_places([(1, "".join(EVERY_LETTER[:40])), (2, letter)], letter, [
                (1, start) for start in range(40) if EVERY_LETTER[start] == letter
            ] + [(2, 0)])

    def test_all_short_words(self):
        for house in houses():
            for word in words_of("abc", 3):
                self.assert_places(house, word, plain_places(house, word))

    def test_letter_more_less_or_exchanged(self):
        for house in houses():
            for word in words_near(house):
                self.assert_places(house, word, plain_places(house, word))

    def test_somewhat_beyond_the_limits(self):
        house = [(number, "ab" * number) for number in range(30, 42)]
        for word in ["", "ab" * 30, "ab" * 35 + "a", "ab" * 50]:
            self.assert_places(house, word, plain_places(house, word))


class StretchesTest(unittest.TestCase):
    def test_by_hand(self):
        self.assertEqual(stretches([(5, "bb")]), ["b", "bb"])
        self.assertEqual(stretches(HOUSE), ["a", "b", "ab", "ba", "aba"])
        self.assertEqual(stretches([(1, "ba"), (2, "~ ")]), [" ", "a", "b", "~", "ba", "~ "])

    def test_none(self):
        for house in [[], [(0, "")], [(0, ""), (99, "")]]:
            self.assertEqual(stretches(house), [])

    def test_equal_texts(self):
        self.assertEqual(stretches(EQUAL), ["x", "y", "xy", "yx", "xyx"])

    def test_each_once_in_order(self):
        for house in [*houses(), *small_houses()]:
            found = stretches(house)
            self.assertEqual(found, plain_stretches(house), house)
            self.assertEqual(len(found), len(set(found)))

    def test_letters_in_order(self):
        house = [(1, "".join(EVERY_LETTER[40::-1])), (2, "".join(EVERY_LETTER[:40:-1]))]
        self.assertEqual(stretches(house)[:len(EVERY_LETTER)], EVERY_LETTER)

    def test_exactly_the_words_that_stand_somewhere(self):
        for house in list(mixed_houses())[::11]:
            found = stretches(house)
            for word in words_near(house):
                self.assertEqual(word in found, word != "" and plain_places(house, word) != [])


class NextTest(unittest.TestCase):
    def test_by_hand(self):
        self.assertEqual(next_letters(HOUSE, ""), "ab")
        self.assertEqual(next_marks(HOUSE, ""), [2, 5])
        self.assertEqual(next_letters(HOUSE, "a"), "b")
        self.assertEqual(next_marks(HOUSE, "a"), [2])
        self.assertEqual(next_letters(HOUSE, "b"), "a")
        self.assertEqual(next_marks(HOUSE, "b"), [5])
        self.assertEqual(next_letters(HOUSE, "ab"), "a")
        self.assertEqual(next_marks(HOUSE, "ab"), [])

    def test_empty_house(self):
        for word in ["", "a", "ab"]:
            self.assertEqual(next_letters([], word), "")
            self.assertEqual(next_marks([], word), [])

    def test_empty_word(self):
        for house in houses():
            self.assertEqual(next_letters(house, ""), "".join(sorted({c for _, text in house for c in text})))
            self.assertEqual(next_marks(house, ""), [number for number, _ in house])

    def test_whole_texts(self):
        self.assertEqual(next_letters(EQUAL, "xyx"), "")
        self.assertEqual(next_marks(EQUAL, "xyx"), [0, 9])
        self.assertEqual(next_letters([(1, "ab"), (2, "abc")], "ab"), "c")
        self.assertEqual(next_marks([(1, "ab"), (2, "abc")], "ab"), [1])
        self.assertEqual(next_marks([(1, "ab"), (2, "abc"), (3, "cab")], "ab"), [1, 3])

    def test_no_stretch(self):
        for house in [HOUSE, EQUAL, *large_houses()]:
            for word in ["zz", "a" * 41, "~~~", house[0][1] + house[0][1][0]]:
                self.assertEqual(next_letters(house, word), "")
                self.assertEqual(next_marks(house, word), [])

    def test_ascending_and_each_once(self):
        house = [(3, "ac"), (4, "ab"), (8, "aab"), (9, "a"), (10, "a ~a~"), (50, "aAa1")]
        self.assertEqual(next_letters(house, "a"), " 1Aabc~")
        self.assertEqual(next_marks(house, "a"), [9])
        self.assertEqual(next_marks(house, "ab"), [4, 8])

    def test_as_the_point_tells(self):
        letters = sorted(EVERY_LETTER)
        for house in houses():
            words = set(plain_stretches(house))
            for word in words_near(house):
                expected = "".join(letter for letter in letters if word + letter in words)
                self.assertEqual(next_letters(house, word), expected, (house, word))
                expected = [number for number, text in house if text[max(0, len(text) - len(word)):] == word]
                self.assertEqual(next_marks(house, word), expected, (house, word))


class EndsTest(unittest.TestCase):
    def test_by_hand(self):
        self.assertEqual(ends(HOUSE), [("", 2), ("", 5), ("a", 2), ("aba", 2), ("b", 5), ("ba", 2)])

    def test_empty_house_and_empty_texts(self):
        self.assertEqual(ends([]), [])
        self.assertEqual(ends([(4, "")]), [("", 4)])
        self.assertEqual(ends([(4, ""), (16, "")]), [("", 4), ("", 16)])

    def test_equal_texts(self):
        self.assertEqual(ends([(3, "ba"), (20, "ba")]), [
            ("", 3), ("", 20), ("a", 3), ("a", 20), ("ba", 3), ("ba", 20),
        ])

    def test_whole_marked_text_and_mark_alone(self):
        for house in houses():
            found = ends(house)
            for number, text in house:
                self.assertIn((text, number), found)
                self.assertIn(("", number), found)
                self.assertEqual(sum(mark == number for _, mark in found), len(text) + 1)

    def test_all_houses(self):
        for house in [*houses(), *mixed_houses()]:
            self.assertEqual(ends(house), plain_ends(house))


class WhatIsPassedInStaysTest(unittest.TestCase):
    def test_new_each_time(self):
        for house in [[], [(4, "")], HOUSE, EQUAL]:
            for name in ["places", "ends_at", "next_marks", "stretches", "ends"]:
                function = getattr(scans, name)
                arguments = [deepcopy(house)] if name in ("stretches", "ends") else [deepcopy(house), ""]
                found = function(*arguments)
                told = list(found)
                self.assertIs(type(found), list)
                found.append("more")
                self.assertEqual(function(*arguments), told)
                self.assertEqual(arguments[0], house)

    def test_kinds_of_values(self):
        self.assertTrue(all(type(pair) is tuple for pair in places(HOUSE, "") + ends_at(HOUSE, "") + ends(HOUSE)))
        self.assertIs(type(count(HOUSE, "a")), int)
        self.assertIs(type(next_letters(HOUSE, "a")), str)


if __name__ == "__main__":
    unittest.main()
