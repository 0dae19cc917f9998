import unittest
from copy import deepcopy
from itertools import product

from suffixhouse.answers.longest import longest_repeated, longest_shared
from suffixhouse.errors import NoText, OutOfRange
from suffixhouse.papers.answers import (
    check_repeated, check_shared, check_single, single_places, stretch_table,
)
from raising import RaisingTest
from reckoning import (
    few_houses, large_houses, mixed_houses, places_of_words, plain_asked, plain_others, plain_repeated,
    plain_shared, plain_single, small_houses, words_of,
)

HOUSE = [(2, "aba"), (5, "b")]
EQUAL = [(0, "xyx"), (4, ""), (9, "xyx")]
GREAT = 10 ** 6000
# Houses of which every single change of the papers is tried.
TINY = [
    [], [(3, "")], [(3, "a")], [(3, "aa")], [(3, "ab")], [(0, ""), (1, "b")], [(1, "a"), (2, "a")],
    [(1, "ab"), (2, "b")], HOUSE, [(1, "aab"), (2, "ab"), (99, "b")], [(7, "aba"), (8, "aba")],
]


def plain_table(house, size):
    """Return what `stretch_table` has to return."""
    return {word: places for word, places in places_of_words(house).items() if len(word) == size}


def texts_of(places):
    """Return the numbers of the texts that places are in, each once."""
    return {number for number, _ in places}


def plain_check(house, least, found, table, shared):
    """Tell what both checks have to tell, test by test as the points list them."""
    count = (lambda places: len(texts_of(places))) if shared else len
    if found is not None and count(places_of_words(house).get(found, [])) < least:
        return False
    if table != plain_table(house, 1 if found is None else len(found) + 1):
        return False
    return not any(count(places) >= least for places in table.values())


def plain_check_single(house, number, index, found, others):
    """Tell what `check_single` has to tell, test by test as the point lists them."""
    words, text = places_of_words(house), dict(house)[number]
    if found is not None:
        stretches = [(i, j) for i in range(len(text)) for j in range(i + 1, len(text) + 1)]
        if found not in stretches or words[text[found[0]:found[1]]] != [(number, found[0])]:
            return False
        if not found[0] <= index < found[1]:
            return False
    return all(
        others.get((start, stop), (number, start)) != (number, start)
        and others[start, stop] in words[text[start:stop]]
        for start, stop in plain_asked(text, index, found)
    )


def changed_tables(house, table):
    """Yield all tables that differ from one in a single thing."""
    strange = list(product([number for number, _ in house] + [-1, 50], [-1, 0, 1, 2, GREAT]))
    for word in ["", "a", "b", "ab", "aa", "z", "a" * 40]:
        for places in [[], [(2, 0)], [(50, 0), (51, 1)]]:
            if word not in table:
                yield {**table, word: places}
    for word, places in table.items():
        yield {other: table[other] for other in table if other != word}
        yield {**table, word: []}
        yield {**table, word: places[::-1]}
        for at in range(len(places)):
            yield {**table, word: places[:at] + places[at + 1:]}
            yield {**table, word: places[:at] + [places[at]] + places[at:]}
            for place in strange:
                yield {**table, word: places[:at] + [place] + places[at + 1:]}
        for place in strange:
            yield {**table, word: places + [place]}
            yield {**table, word: [place] + places}
    yield {}


def changed_others(house, others):
    """Yield all dicts that differ from one in a single thing."""
    places = list(product([number for number, _ in house] + [-1, 50], [-3, -2, -1, 0, 1, 2, 3, GREAT]))
    for key in others:
        yield {other: others[other] for other in others if other != key}
        for place in places:
            yield {**others, key: place}
    for key in product(range(-1, 4), repeat=2):
        if key not in others:
            yield {**others, key: (0, 0)}
    yield {}


class StretchTableTest(RaisingTest):
    def test_by_hand(self):
        self.assertEqual(stretch_table(HOUSE, 1), {"a": [(2, 0), (2, 2)], "b": [(2, 1), (5, 0)]})
        self.assertEqual(stretch_table(HOUSE, 2), {"ab": [(2, 0)], "ba": [(2, 1)]})
        self.assertEqual(stretch_table(HOUSE, 3), {"aba": [(2, 0)]})
        self.assertEqual(stretch_table([(1, "aaa")], 2), {"aa": [(1, 0), (1, 1)]})

    def test_more_letters_than_the_texts(self):
        for size in [4, 5, 41, 2 ** 32 - 1, GREAT]:
            self.assertEqual(stretch_table(HOUSE, size), {})

    def test_all_houses(self):
        for house in [*few_houses(), *small_houses(), *mixed_houses()]:
            for size in range(1, 9):
                self.assertEqual(stretch_table(house, size), plain_table(house, size), (house, size))

    def test_large_houses(self):
        for house in large_houses():
            for size in [1, 2, 3, 20, 39, 40, 41]:
                self.assertEqual(stretch_table(house, size), plain_table(house, size), (house, size))

    def test_below_one(self):
        for house in [[], [(3, "")], HOUSE]:
            for size in [0, -1, -40, -(2 ** 32), -GREAT]:
                self.assert_raises(OutOfRange, 0, stretch_table, house, size)

    def test_new_each_time(self):
        for house in [[], [(3, "")], HOUSE, EQUAL]:
            before = deepcopy(house)
            found = stretch_table(house, 1)
            told = deepcopy(found)
            self.assertIs(type(found), dict)
            for places in found.values():
                self.assertIs(type(places), list)
                self.assertTrue(all(type(place) is tuple for place in places))
                places.append((0, 0))
            found["z"] = []
            self.assertEqual(stretch_table(house, 1), told)
            self.assertEqual(house, before)


class LongestPapersTest(RaisingTest):
    def assert_checks(self, house, least, found, table):
        """Both checks tell what the plain ones tell, and True only of answers with the most letters."""
        size = 0 if found is None else len(found)
        for check, shared, best in [
            (check_repeated, False, plain_repeated(house, least)), (check_shared, True, plain_shared(house, least)),
        ]:
            expected = plain_check(house, least, found, table, shared)
            self.assertIs(check(house, least, found, table), expected, (house, least, found, table))
            if expected:
                self.assertEqual(size, len(best or ""))

    def test_by_hand(self):
        table = {"ab": [(2, 0)], "ba": [(2, 1)]}
        self.assertIs(check_repeated(HOUSE, 2, "a", table), True)
        self.assertIs(check_repeated(HOUSE, 2, "b", table), True)
        self.assertIs(check_repeated(HOUSE, 1, "a", table), False)
        self.assertIs(check_repeated(HOUSE, 3, "a", table), False)
        self.assertIs(check_shared(HOUSE, 2, "b", table), True)
        self.assertIs(check_shared(HOUSE, 2, "a", table), False)
        self.assertIs(check_shared(HOUSE, 1, "b", table), False)

    def test_told_ones_pass(self):
        for house in [*few_houses(), *small_houses(), *mixed_houses()]:
            for least in range(1, 7):
                for tell, check in [(longest_repeated, check_repeated), (longest_shared, check_shared)]:
                    found = tell(house, least)
                    table = plain_table(house, 1 if found is None else len(found) + 1)
                    self.assertIs(check(house, least, found, table), True, (house, least))

    def test_told_ones_of_large_houses_pass(self):
        for house in large_houses():
            for least in [1, 2, 8, 9, 320, 321, GREAT]:
                for tell, check in [(longest_repeated, check_repeated), (longest_shared, check_shared)]:
                    found = tell(house, least)
                    size = 1 if found is None else len(found) + 1
                    self.assertIs(check(house, least, found, plain_table(house, size)), True)
                    self.assertIs(check(house, least, found, plain_table(house, size + 1)), size > 40)

    def test_each_text_in_the_place_of_the_answer(self):
        for house in [*TINY, EQUAL, *list(small_houses())[::37]]:
            tables = [plain_table(house, size) for size in range(1, 6)]
            words = [None, *words_of("ab", 3), "x", "xyx", "xz", "z", " ", "a" * 40]
            for least in range(1, 5):
                for found, table in product(words, tables):
                    self.assert_checks(house, least, found, table)

    def test_none_and_the_empty_text(self):
        for house in [[], [(3, "")], HOUSE]:
            table = plain_table(house, 1)
            for least in [1, 2, 3, 4]:
                self.assertIs(check_repeated(house, least, "", table), False)
                self.assertIs(check_shared(house, least, "", table), False)
                self.assertIs(check_repeated(house, least, None, table), house != HOUSE or least > 2)
                self.assertIs(check_shared(house, least, None, table), house != HOUSE or least > 2)

    def test_single_changes_of_the_table(self):
        for house in [*TINY, *list(small_houses())[::61]]:
            for least in [1, 2, 3]:
                for found in {plain_repeated(house, least), plain_shared(house, least)}:
                    table = plain_table(house, 1 if found is None else len(found) + 1)
                    for other in [table, *changed_tables(house, table)]:
                        self.assert_checks(house, least, found, other)
                        if other != table:
                            self.assertIs(check_repeated(house, least, found, other), False)
                            self.assertIs(check_shared(house, least, found, other), False)

    def test_order_of_the_table_does_not_count(self):
        table = stretch_table(HOUSE, 2)
        turned = {word: table[word] for word in reversed(list(table))}
        self.assertIs(check_repeated(HOUSE, 2, "a", turned), True)
        self.assertIs(check_shared(HOUSE, 2, "b", turned), True)

    def test_what_is_passed_in_stays(self):
        for house in [[], HOUSE, EQUAL]:
            for found, size in [(None, 1), ("b", 2), ("xyx", 4)]:
                arguments = [house, 2, found, stretch_table(house, size)]
                before = deepcopy(arguments)
                check_repeated(*arguments)
                check_shared(*arguments)
                self.assertEqual(arguments, before)


class SinglePlacesTest(RaisingTest):
    def test_by_hand(self):
        self.assertEqual(single_places(HOUSE, 2, 0), {(0, 1): (2, 2)})
        self.assertEqual(single_places(HOUSE, 2, 1), {(1, 2): (5, 0)})
        self.assertEqual(single_places(HOUSE, 2, 2), {(2, 3): (2, 0)})
        self.assertEqual(single_places(HOUSE, 5, 0), {(0, 1): (2, 1)})
        self.assertEqual(single_places([(1, "abab"), (2, "ab")], 1, 1), {(1, 2): (1, 3)})
        self.assertEqual(single_places([(1, "aba"), (2, "ab"), (3, "ba")], 1, 1), {(0, 2): (2, 0), (1, 3): (3, 0)})

    def test_one_letter_needs_no_place(self):
        self.assertEqual(single_places([(1, "abc")], 1, 1), {})

    def test_least_other_place(self):
        house = [(1, "a"), (2, "aa"), (3, "a")]
        self.assertEqual(single_places(house, 1, 0), {(0, 1): (2, 0)})
        self.assertEqual(single_places(house, 2, 0), {(0, 1): (1, 0)})
        self.assertEqual(single_places(house, 2, 1), {(1, 2): (1, 0)})
        self.assertEqual(single_places(house, 3, 0), {(0, 1): (1, 0)})

    def test_all_houses(self):
        for house in [*few_houses(), *list(small_houses())[::3]]:
            for number, text in house:
                for index in range(len(text)):
                    expected = plain_others(house, number, index)
                    self.assertEqual(single_places(house, number, index), expected, (house, number, index))

    def test_new_each_time(self):
        for number, index in [(2, 0), (5, 0)]:
            found = single_places(HOUSE, number, index)
            told = dict(found)
            self.assertIs(type(found), dict)
            found[0, 40] = (0, 0)
            self.assertEqual(single_places(HOUSE, number, index), told)

    def test_errors(self):
        for number in [0, 3, 99, -1, 2 ** 32, GREAT, -GREAT]:
            for index in [0, 2, 3, -1, GREAT]:
                self.assert_raises(NoText, number, single_places, HOUSE, number, index)
        for index in [3, 4, -1, -3, GREAT, -GREAT]:
            self.assert_raises(OutOfRange, index, single_places, HOUSE, 2, index)
        self.assert_raises(OutOfRange, 0, single_places, [(7, "")], 7, 0)
        self.assert_raises(NoText, 7, single_places, [], 7, 0)


class CheckSingleTest(RaisingTest):
    def assert_check(self, house, number, index, found, others):
        """The check tells what the plain one tells, and True only of the fewest letters."""
        expected = plain_check_single(house, number, index, found, others)
        self.assertIs(
            check_single(house, number, index, found, others), expected, (house, number, index, found, others)
        )
        if expected:
            best = plain_single(house, number, index)
            self.assertEqual(found is None, best is None)
            self.assertEqual(found and found[1] - found[0], best and best[1] - best[0])
        return expected

    def test_by_hand(self):
        self.assertIs(check_single(HOUSE, 2, 1, (0, 2), {(1, 2): (5, 0)}), True)
        # Of several stretches with so many letters, each one is accepted.
        self.assertIs(check_single(HOUSE, 2, 1, (1, 3), {(1, 2): (5, 0)}), True)
        self.assertIs(check_single(HOUSE, 2, 1, (0, 2), {(1, 2): (2, 1)}), False)
        self.assertIs(check_single(HOUSE, 2, 1, (0, 2), {(1, 2): (2, 0)}), False)
        self.assertIs(check_single(HOUSE, 2, 1, (0, 2), {}), False)
        self.assertIs(check_single(HOUSE, 2, 1, (0, 3), {(0, 2): (2, 0), (1, 3): (2, 1)}), False)
        self.assertIs(check_single(HOUSE, 2, 1, None, {(0, 3): (5, 0)}), False)
        self.assertIs(check_single(HOUSE, 5, 0, None, {(0, 1): (2, 1)}), True)
        self.assertIs(check_single(HOUSE, 5, 0, None, {(0, 1): (5, 0)}), False)
        self.assertIs(check_single(HOUSE, 5, 0, None, {}), False)
        self.assertIs(check_single(HOUSE, 5, 0, (0, 1), {(0, 1): (2, 1)}), False)

    def test_one_letter_needs_no_place(self):
        for others in [{}, {(1, 2): (1, 1)}, {(0, 0): (-1, GREAT)}, {(-5, GREAT): (1, 0)}]:
            self.assertIs(check_single([(1, "abc")], 1, 1, (1, 2), others), True)

    def test_other_keys_play_no_part(self):
        others = {(1, 2): (5, 0), (0, 1): (2, 0), (1, 3): (-7, GREAT), (-1, 2): (0, 0), (GREAT, -GREAT): (1, 1)}
        self.assertIs(check_single(HOUSE, 2, 1, (0, 2), others), True)
        del others[1, 2]
        self.assertIs(check_single(HOUSE, 2, 1, (0, 2), others), False)

    def test_told_ones_pass(self):
        for house in [*few_houses(), *list(small_houses())[::3], *list(large_houses())[::3]]:
            for number, text in house:
                for index in range(0, len(text), 1 + len(text) // 9):
                    found = plain_single(house, number, index)
                    others = single_places(house, number, index)
                    self.assertIs(check_single(house, number, index, found, others), True, (house, number, index))

    def test_each_pair_in_the_place_of_the_answer(self):
        for house in TINY:
            for number, text in house:
                for index in range(len(text)):
                    told = plain_others(house, number, index)
                    # All stretches of the text that stand elsewhere, too, with such a place.
                    every = {}
                    for word, places in places_of_words(house).items():
                        for own in places:
                            for place in places:
                                if own[0] == number and place != own:
                                    every[own[1], own[1] + len(word)] = place
                    size = len(text) + 2
                    pairs = [None, *product([*range(-size, size), GREAT, -GREAT], repeat=2)]
                    for found, others in product(pairs, [told, every, {}]):
                        self.assert_check(house, number, index, found, others)

    def test_single_changes_of_the_places(self):
        for house in [*TINY, *list(small_houses())[::61]]:
            for number, text in house:
                for index in range(len(text)):
                    found = plain_single(house, number, index)
                    told = plain_others(house, number, index)
                    for others in [told, *changed_others(house, told)]:
                        self.assert_check(house, number, index, found, others)

    def test_places_outside_the_house(self):
        house = [(1, "aab"), (2, "aa")]
        self.assertEqual(plain_single(house, 1, 1), (1, 3))
        for place in [(1, -1), (1, -3), (2, -2), (2, -1), (2, 2), (3, 0), (-1, 0), (GREAT, GREAT), (1, 2), (1, 3)]:
            self.assertIs(check_single(house, 1, 1, (1, 3), {(1, 2): place}), False)
        for place in [(1, 0), (2, 0), (2, 1)]:
            self.assertIs(check_single(house, 1, 1, (1, 3), {(1, 2): place}), True)

    def test_errors(self):
        for found in [None, (0, 1), (-1, GREAT)]:
            for number in [0, 3, 99, -1, 2 ** 32, GREAT, -GREAT]:
                for index in [0, 2, 3, -1, GREAT]:
                    self.assert_raises(NoText, number, check_single, HOUSE, number, index, found, {})
            for index in [3, 4, -1, -3, GREAT, -GREAT]:
                self.assert_raises(OutOfRange, index, check_single, HOUSE, 2, index, found, {(0, 1): (2, 2)})
            self.assert_raises(OutOfRange, 0, check_single, [(7, "")], 7, 0, found, {})
            self.assert_raises(NoText, 7, check_single, [], 7, 0, found, {})

    def test_what_is_passed_in_stays(self):
        for house in TINY:
            for number, text in house:
                for index in range(len(text)):
                    others = single_places(house, number, index)
                    before = deepcopy((house, others))
                    check_single(house, number, index, plain_single(house, number, index), others)
                    self.assertEqual((house, others), before)


if __name__ == "__main__":
    unittest.main()
