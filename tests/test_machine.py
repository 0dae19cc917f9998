import unittest
from copy import deepcopy

from suffixhouse.machines.machine import edge_count, machine, state_of, states, takes
from reckoning import (
    ends_of_words, large_houses, mixed_houses, plain_ends, plain_machine, plain_numbers,
    plain_states, rows_from, small_houses, words_of,
)

HOUSE = [(2, "aba"), (5, "b")]
# Rings: 0 -> 1 -> 0, 1 -> 1, a mark that leads back, and a state that nothing leads to.
RINGS = [{"a": 1, 3: 0}, {"b": 0, "a": 1, 7: 2}, {}, {"a": 3, "c": 2, 0: 3, 1: 1}]


class OnlyLetters(str):
    """A text that can be gone through letter by letter, and nothing else."""

    def refuse(self, *arguments):
        raise AssertionError("a word is compared or cut")

    __eq__ = __ne__ = __lt__ = __le__ = __gt__ = __ge__ = __hash__ = refuse
    __getitem__ = __contains__ = __add__ = startswith = endswith = find = refuse


class MachineTest(unittest.TestCase):
    def test_by_hand(self):
        self.assertEqual(machine(HOUSE), [
            {"a": 1, "b": 2, 2: 5, 5: 5},
            {"b": 3, 2: 5},
            {"a": 4, 5: 5},
            {"a": 4},
            {2: 5},
            {},
        ])
        self.assertEqual(machine([(7, "aa")]), [{"a": 1, 7: 3}, {"a": 2, 7: 3}, {7: 3}, {}])

    def test_empty_house(self):
        self.assertEqual(machine([]), [{}])

    def test_empty_texts(self):
        self.assertEqual(machine([(0, "")]), [{0: 1}, {}])
        self.assertEqual(machine([(0, ""), (99, "")]), [{0: 1, 99: 1}, {}])
        self.assertEqual(machine([(1, ""), (3, "a")]), [{"a": 1, 1: 2, 3: 2}, {3: 2}, {}])

    def test_equal_texts(self):
        self.assertEqual(machine([(1, "a"), (3, "a")]), [{"a": 1, 1: 2, 3: 2}, {1: 2, 3: 2}, {}])

    def test_digits_are_no_marks(self):
        self.assertEqual(machine([(1, "1")]), [{"1": 1, 1: 2}, {1: 2}, {}])

    def test_small_houses(self):
        for house in small_houses():
            self.assertEqual(machine(house), plain_machine(house), house)

    def test_mixed_houses(self):
        for house in mixed_houses():
            self.assertEqual(machine(house), plain_machine(house), house)

    def test_large_houses(self):
        for house in large_houses():
            self.assertEqual(machine(house), plain_machine(house), house)

    def test_takes_exactly_the_ends(self):
        for house in [*mixed_houses(), *list(small_houses())[::5]]:
            edges = machine(house)
            self.assertEqual(rows_from(edges, 0, len(edges) - 1), plain_ends(house), house)

    def test_has_the_fewest_states(self):
        # Different rows behind any two states: no machine can do with fewer.
        for house in [*mixed_houses(), *list(small_houses())[::5]]:
            edges = machine(house)
            last = len(edges) - 1
            behind = {tuple(rows_from(edges, state, last)) for state in range(last)}
            self.assertEqual(len(behind), last, house)
            self.assertNotIn((), behind)

    def test_kinds_of_values(self):
        for house in [[], [(4, "")], *large_houses()]:
            edges = machine(house)
            self.assertIs(type(edges), list)
            for row in edges:
                self.assertIs(type(row), dict)
                for sign, after in row.items():
                    self.assertIn(type(sign), (int, str))
                    self.assertIs(type(after), int)

    def test_letter_by_letter(self):
        for house in [HOUSE, *mixed_houses()]:
            closed = [(number, OnlyLetters(text)) for number, text in house]
            self.assertEqual(machine(closed), plain_machine(house))

    def test_new_each_time(self):
        for house in [[], [(3, "")], HOUSE, [(1, "abab"), (2, "abab")]]:
            before = deepcopy(house)
            first = machine(house)
            told = deepcopy(first)
            self.assertEqual(len({id(row) for row in first}), len(first))
            for row in first:
                row["z"] = 0
                row[50] = 0
            first.append({})
            self.assertEqual(machine(house), told)
            self.assertEqual(house, before)

    def test_somewhat_beyond_the_limits(self):
        house = [(number, "ab" * number) for number in range(30, 42)]
        self.assertEqual(machine(house), plain_machine(house))
        self.assertEqual(states(house), plain_states(house))


class StatesTest(unittest.TestCase):
    def test_by_hand(self):
        self.assertEqual(states(HOUSE), [
            ("", "", [(2, 0), (2, 1), (2, 2), (2, 3), (5, 0), (5, 1)], None),
            ("a", "a", [(2, 1), (2, 3)], 0),
            ("b", "b", [(2, 2), (5, 1)], 0),
            ("ab", "ab", [(2, 2)], 2),
            ("ba", "aba", [(2, 3)], 1),
        ])

    def test_empty_house(self):
        self.assertEqual(states([]), [("", "", [], None)])

    def test_empty_texts(self):
        self.assertEqual(states([(4, "")]), [("", "", [(4, 0)], None)])
        self.assertEqual(states([(4, ""), (6, "")]), [("", "", [(4, 0), (6, 0)], None)])
        self.assertEqual(states([(4, ""), (6, "x")]), [
            ("", "", [(4, 0), (6, 0), (6, 1)], None),
            ("x", "x", [(6, 1)], 0),
        ])

    def test_equal_texts(self):
        self.assertEqual(states([(0, "xy"), (9, "xy")]), [
            ("", "", [(0, 0), (0, 1), (0, 2), (9, 0), (9, 1), (9, 2)], None),
            ("x", "x", [(0, 1), (9, 1)], 0),
            ("y", "xy", [(0, 2), (9, 2)], 0),
        ])

    def test_small_houses(self):
        for house in small_houses():
            self.assertEqual(states(house), plain_states(house), house)

    def test_mixed_houses(self):
        for house in mixed_houses():
            self.assertEqual(states(house), plain_states(house), house)

    def test_large_houses(self):
        for house in large_houses():
            self.assertEqual(states(house), plain_states(house), house)

    def test_go_with_the_machine(self):
        for house in [[], *mixed_houses(), *large_houses()]:
            last = 0 if house == [] else 1
            self.assertEqual(len(machine(house)), len(states(house)) + last)

    def test_kinds_of_values(self):
        for house in [[], [(4, "")], HOUSE]:
            found = states(house)
            self.assertIs(type(found), list)
            for row in found:
                self.assertEqual([type(value) for value in row[:3]], [str, str, list])
                self.assertIs(type(row), tuple)
                self.assertTrue(all(type(pair) is tuple for pair in row[2]))

    def test_new_each_time(self):
        for house in [[], [(3, "")], HOUSE, [(1, "abab"), (2, "abab")]]:
            before = deepcopy(house)
            first = states(house)
            told = deepcopy(first)
            for row in first:
                row[2].append((0, 0))
            first.clear()
            self.assertEqual(states(house), told)
            self.assertEqual(house, before)

    def test_lists_of_pairs_are_separate(self):
        found = states(HOUSE)
        self.assertEqual(len({id(row[2]) for row in found}), len(found))


class StateOfTest(unittest.TestCase):
    def test_inner_words_and_others(self):
        for house in [HOUSE, *list(small_houses())[::9]]:
            edges = machine(house)
            numbers = plain_numbers(house)
            for word in words_of("abc", 4):
                self.assertEqual(state_of(edges, word), numbers.get(word), (house, word))

    def test_letter_more_less_or_exchanged(self):
        for house in large_houses():
            edges = machine(house)
            numbers = plain_numbers(house)
            for number, text in house:
                for word in [
                    text, text[1:], text[:-1], text + text[-1], "a" + text, "~" + text[1:],
                    text[:20] + text[21:], text[:20] + "b" + text[21:], text[5:25] + "a", text + text[:20],
                ]:
                    self.assertEqual(state_of(edges, word), numbers.get(word), word)

    def test_empty_word(self):
        for edges in [[{}], machine([]), machine(HOUSE), RINGS, [{"a": 1}, {}]]:
            self.assertEqual(state_of(edges, ""), 0)
            self.assertIs(type(state_of(edges, "")), int)

    def test_empty_house(self):
        self.assertIsNone(state_of(machine([]), "a"))
        self.assertIsNone(state_of(machine([(1, "")]), "1"))

    def test_rings(self):
        for word, state in [
            ("a", 1), ("aa", 1), ("ab", 0), ("aab", 0), ("aba", 1), ("b", None), ("abb", None),
            ("ab" * 30, 0), ("ab" * 29 + "a", 1), ("a" * 60, 1), ("a" * 59 + "b", 0), ("a" * 59 + "c", None),
            ("c", None), ("ab" * 500, 0), ("3", None), ("a7", None),
        ]:
            self.assertEqual(state_of(RINGS, word), state, word)
        self.assertEqual(state_of([{"a": 0}], "a" * 60), 0)

    def test_last_state_is_none_of_its_own(self):
        self.assertEqual(state_of([{"x": 2}, {}, {"y": 1}], "xy"), 1)


class TakesTest(unittest.TestCase):
    def test_ends_and_others(self):
        for house in [HOUSE, [(0, ""), (3, "b")], *list(small_houses())[::9]]:
            edges = machine(house)
            ends = plain_ends(house)
            marks = [number for number, text in house] + [1, 42, 100, 2 ** 32 - 1]
            for word in words_of("abc", 3):
                for mark in marks:
                    self.assertIs(takes(edges, word, mark), (word, mark) in ends, (house, word, mark))

    def test_ends_of_large_houses(self):
        for house in large_houses():
            edges = machine(house)
            ends = set(plain_ends(house))
            for word, number in ends:
                self.assertIs(takes(edges, word, number), True)
                for mark in range(100):
                    self.assertIs(takes(edges, word, mark), (word, mark) in ends)
                for other in [word + "a", "a" + word, word[:-1], word[:-1] + "~", word[:5] + word[6:]]:
                    self.assertIs(takes(edges, other, number), (other, number) in ends)

    def test_inner_words_that_end_no_text(self):
        for house in mixed_houses():
            edges = machine(house)
            for word in ends_of_words(house):
                for number, text in house:
                    self.assertIs(takes(edges, word, number), text.endswith(word))

    def test_empty_house(self):
        self.assertIs(takes(machine([]), "", 0), False)
        self.assertIs(takes(machine([]), "a", 0), False)

    def test_digits_are_no_marks(self):
        edges = machine([(1, "2"), (2, "1")])
        self.assertIs(takes(edges, "2", 1), True)
        self.assertIs(takes(edges, "2", 2), False)
        self.assertIs(takes([{"1": 0}], "", 1), False)
        self.assertIs(takes([{1: 0}], "1", 1), False)

    def test_rings(self):
        for word, mark, expected in [
            ("", 3, True), ("", 7, False), ("a", 7, True), ("a", 3, False), ("ab", 3, True),
            ("ab" * 30, 3, True), ("ab" * 30, 7, False), ("a" * 60, 7, True), ("b", 3, False),
            ("a" * 59 + "b", 3, True), ("c", 3, False), ("", 0, False), ("a", 1, False),
        ]:
            self.assertIs(takes(RINGS, word, mark), expected, (word, mark))
        # The state need not be a last one, and it may be the start.
        self.assertIs(takes([{5: 0, "a": 0}], "aaa", 5), True)
        self.assertIs(takes([{}], "", 5), False)


class EdgeCountTest(unittest.TestCase):
    def test_by_hand(self):
        self.assertEqual(edge_count(machine([])), 0)
        self.assertEqual(edge_count(machine([(1, "")])), 1)
        self.assertEqual(edge_count(machine(HOUSE)), 10)
        self.assertEqual(edge_count(RINGS), 9)
        self.assertEqual(edge_count([{}]), 0)
        self.assertEqual(edge_count([{}, {}, {4: 0}]), 1)

    def test_machines(self):
        for house in [*mixed_houses(), *large_houses()]:
            self.assertEqual(edge_count(machine(house)), sum(map(len, plain_machine(house))))


class WhatIsPassedInStaysTest(unittest.TestCase):
    def test_edges_stay(self):
        for edges in [[{}], machine(HOUSE), RINGS]:
            before = deepcopy(edges)
            for word in ["", "a", "ab", "zz", "ab" * 30]:
                state_of(edges, word)
                takes(edges, word, 3)
                edge_count(edges)
                self.assertEqual(edges, before)


if __name__ == "__main__":
    unittest.main()
