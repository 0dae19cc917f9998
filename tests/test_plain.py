import unittest
from copy import deepcopy

from suffixhouse.machines.machine import states
from suffixhouse.machines.plain import classes
from suffixhouse.texts.scans import ends, ends_at, next_letters, next_marks
from reckoning import (
    few_houses, large_houses, mixed_houses, plain_states, rows_from, plain_machine, small_houses,
)

HOUSE = [(2, "aba"), (5, "b")]


class ClassesTest(unittest.TestCase):
    def test_by_hand(self):
        self.assertEqual(classes(HOUSE), [
            ("", "", [(2, 0), (2, 1), (2, 2), (2, 3), (5, 0), (5, 1)]),
            ("a", "a", [(2, 1), (2, 3)]),
            ("b", "b", [(2, 2), (5, 1)]),
            ("ab", "ab", [(2, 2)]),
            ("ba", "aba", [(2, 3)]),
        ])

    def test_empty_house(self):
        self.assertEqual(classes([]), [])

    def test_empty_texts(self):
        self.assertEqual(classes([(4, "")]), [("", "", [(4, 0)])])
        self.assertEqual(classes([(4, ""), (6, "x")]), [("", "", [(4, 0), (6, 0), (6, 1)]), ("x", "x", [(6, 1)])])

    def test_equal_texts(self):
        self.assertEqual(classes([(0, "xy"), (9, "xy")]), [
            ("", "", [(0, 0), (0, 1), (0, 2), (9, 0), (9, 1), (9, 2)]),
            ("x", "x", [(0, 1), (9, 1)]),
            ("y", "xy", [(0, 2), (9, 2)]),
        ])

    def test_order_of_the_shortest_words(self):
        # "aa" comes behind "~", as it has more letters.
        found = [shortest for shortest, _, _ in classes([(1, "aa~"), (2, "c b")])]
        self.assertEqual(found, ["", " ", "a", "b", "c", "~", "aa"])
        for house in few_houses():
            shortest = [word for word, _, _ in classes(house)]
            self.assertEqual(shortest, sorted(shortest, key=lambda word: (len(word), word)))

    def test_all_houses(self):
        for house in [*few_houses(), *small_houses(), *mixed_houses(), *large_houses()]:
            if house:
                expected = [row[:3] for row in plain_states(house)]
                self.assertEqual(classes(house), expected, house)

    def test_as_the_machine_tells(self):
        for house in [*mixed_houses(), *large_houses()]:
            self.assertEqual(classes(house), [row[:3] for row in states(house)])

    def test_each_inner_word_is_in_one_class(self):
        for house in list(few_houses())[1:]:
            words = [
                longest[len(longest) - size:]
                for shortest, longest, _ in classes(house)
                for size in range(len(shortest), len(longest) + 1)
            ]
            expected = {text[i:j] for _, text in house for j in range(len(text) + 1) for i in range(j + 1)}
            self.assertEqual(len(words), len(set(words)))
            self.assertEqual(set(words), expected)

    def test_alike_words_have_the_same_ends_and_the_same_rows(self):
        for house in list(few_houses())[::4]:
            rows = ends(house)
            for shortest, longest, pairs in classes(house):
                behind = None
                for size in range(len(shortest), len(longest) + 1):
                    word = longest[len(longest) - size:]
                    self.assertEqual(ends_at(house, word), pairs)
                    told = [(row[size:], mark) for row, mark in rows if row.startswith(word)]
                    self.assertIn(behind, [None, told])
                    behind = told
                    self.assertEqual(next_letters(house, word), next_letters(house, longest))
                    self.assertEqual(next_marks(house, word), next_marks(house, longest))

    def test_rows_behind_tell_the_classes_apart(self):
        for house in list(few_houses())[1::4]:
            edges = plain_machine(house)
            last = len(edges) - 1
            behind = [rows_from(edges, state, last) for state in range(last)]
            self.assertEqual(len(classes(house)), last)
            self.assertEqual(len({tuple(rows) for rows in behind}), last)

    def test_new_each_time(self):
        for house in [[], [(4, "")], HOUSE, [(1, "aa"), (2, "aa")]]:
            before = deepcopy(house)
            found = classes(house)
            told = deepcopy(found)
            self.assertEqual(len({id(pairs) for _, _, pairs in found}), len(found))
            for _, _, pairs in found:
                pairs.append((0, 0))
            found.append(("z", "z", []))
            self.assertEqual(classes(house), told)
            self.assertEqual(house, before)

    def test_kinds_of_values(self):
        for row in classes(HOUSE):
            self.assertIs(type(row), tuple)
            self.assertEqual([type(value) for value in row], [str, str, list])
            self.assertTrue(all(type(pair) is tuple for pair in row[2]))

    def test_somewhat_beyond_the_limits(self):
        house = [(number, "ab" * number) for number in range(30, 42)]
        self.assertEqual(classes(house), [row[:3] for row in plain_states(house)])


if __name__ == "__main__":
    unittest.main()
