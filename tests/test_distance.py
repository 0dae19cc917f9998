import unittest
from copy import deepcopy
from functools import lru_cache
from itertools import product
from random import Random

from suffixhouse.errors import BadStep
from suffixhouse.misprints.distance import (
    aligned, alignment, check_distance, distance, distance_table, is_low,
)
from raising import RaisingTest
from reckoning import plain_distance, words_of

GREAT = 10 ** 6000
RANKS = ("keep", "change", "out", "put")
SHORT = words_of("ab", 4)
STEPS = [
    *[("keep", letter) for letter in "abz"], *[("out", letter) for letter in "abz"],
    *[("put", letter) for letter in "abz"], *[("change", one, two) for one in "abz" for two in "abz"],
]


def long_pairs():
    """Yield pairs of long words, always the same ones."""
    chance = Random(601)
    yield from [
        ("a" * 40, "a" * 40), ("a" * 40, "b" * 40), ("a" * 40, ""), ("", "a" * 40), ("ab" * 20, "ba" * 20),
        ("abc" * 13, "cba" * 13), ("kitten", "sitting"), ("a" * 39 + "b", "b" + "a" * 39), ("~ " * 20, " ~" * 19),
    ]
    for letters in ("ab", "abc", "0123456789 ~", "ab"):
        for _ in range(4):
            one = "".join(chance.choices(letters, k=chance.randint(20, 40)))
            two = list(one)
            for at in chance.sample(range(len(two)), 6):
                two[at] = chance.choice(["", letters[0], letters[-1], two[at] + letters[1]])
            yield one, "".join(two)[:40]
            yield one, "".join(chance.choices(letters, k=chance.randint(20, 40)))


def changes_of(word, letters):
    """Return all words that are one change away."""
    found = {word[:at] + word[at + 1:] for at in range(len(word))}
    found |= {word[:at] + letter + word[at:] for at in range(len(word) + 1) for letter in letters}
    found |= {word[:at] + letter + word[at + 1:] for at in range(len(word)) for letter in letters}
    return found - {word}


def distances_by_changes(word, letters, most):
    """Return the distances of all words of at most so many letters, change by change."""
    found = {word: 0}
    news = [word]
    for many in range(1, 2 * most + 1):
        news = sorted({other for old in news for other in changes_of(old, letters)} - set(found))
        news = [other for other in news if len(other) <= most]
        found.update({other: many for other in news})
    return found


@lru_cache(maxsize=None)
def all_alignments(one, two):
    """Return all alignments of two short words."""
    found = [()] if one == two == "" else []
    if one and two:
        step = ("keep", one[0]) if one[0] == two[0] else ("change", one[0], two[0])
        found += [(step, *steps) for steps in all_alignments(one[1:], two[1:])]
    if one:
        found += [(("out", one[0]), *steps) for steps in all_alignments(one[1:], two)]
    if two:
        found += [(("put", two[0]), *steps) for steps in all_alignments(one, two[1:])]
    return found


def price(steps):
    """Return the price of an alignment."""
    return sum(step[0] != "keep" for step in steps)


def place_of(steps):
    """Return the price and the ranks of the steps: the told alignment is the first one."""
    return price(steps), [RANKS.index(step[0]) for step in steps]


def told_alignment(one, two):
    """Return the first one of the best alignments, for long words."""
    best = {}
    for i in range(len(one), -1, -1):
        for j in range(len(two), -1, -1):
            found = [[]] if i == len(one) and j == len(two) else []
            if i < len(one) and j < len(two):
                step = ("keep", one[i]) if one[i] == two[j] else ("change", one[i], two[j])
                found.append([step, *best[i + 1, j + 1]])
            if i < len(one):
                found.append([("out", one[i]), *best[i + 1, j]])
            if j < len(two):
                found.append([("put", two[j]), *best[i, j + 1]])
            best[i, j] = min(found, key=place_of)
    return best[0, 0]


def plain_table(one, two):
    """Return what `distance_table` has to return."""
    return [[plain_distance(one[i:], two[j:]) for j in range(len(two) + 1)] for i in range(len(one) + 1)]


def plain_low(one, two, table):
    """Tell what `is_low` has to tell, as point 604 tells it."""
    if [len(row) for row in table] != [len(two) + 1] * (len(one) + 1):
        return False
    places = {(i, j): value for i, row in enumerate(table) for j, value in enumerate(row)}
    for (i, j), value in places.items():
        if (i, j) == (len(one), len(two)):
            bounds = [0]
        else:
            bounds = [places[at] + 1 for at in [(i + 1, j), (i, j + 1)] if at in places]
            if (i + 1, j + 1) in places:
                bounds.append(places[i + 1, j + 1] + (one[i] != two[j]))
        if any(value > bound for bound in bounds):
            return False
    return True


def changed_tables(table):
    """Yield all tables that differ from one in a single thing."""
    for i, row in enumerate(table):
        for j, value in enumerate(row):
            for other in [value - 1, value + 1, value - 2, value + 2, -5, GREAT, -GREAT]:
                yield [*table[:i], [*row[:j], other, *row[j + 1:]], *table[i + 1:]]
            yield [*table[:i], [*row[:j], *row[j + 1:]], *table[i + 1:]]
        for other in [[*row, 0], [0, *row], []]:
            yield [*table[:i], other, *table[i + 1:]]
        yield [*table[:i], *table[i + 1:]]
        yield [*table[:i], row, row, *table[i + 1:]]
    yield []
    yield [[]]


def changed_steps(steps):
    """Yield all lists of steps that differ from one in a single thing."""
    for at in range(len(steps) + 1):
        yield from ([*steps[:at], step, *steps[at:]] for step in STEPS)
        if at < len(steps):
            yield [*steps[:at], *steps[at + 1:]]
            yield from ([*steps[:at], step, *steps[at + 1:]] for step in STEPS)


def plain_aligned(one, steps):
    """Return the word into which an alignment turns a word, or the index of its fault."""
    left, found = one, ""
    for k, step in enumerate(steps):
        if step[0] != "put":
            if not left.startswith(step[1]) or (step[0] == "change" and step[1] == step[2]):
                return k
            left = left[1:]
        found += {"keep": step[-1], "change": step[-1], "out": "", "put": step[-1]}[step[0]]
    return found if left == "" else len(steps)


class DistanceTest(RaisingTest):
    def test_by_hand(self):
        for one, two, found in [
            ("", "", 0), ("a", "", 1), ("", "ab", 2), ("a", "a", 0), ("a", "b", 1), ("ab", "ba", 2),
            ("abc", "abd", 1), ("abc", "ac", 1), ("ac", "abc", 1), ("kitten", "sitting", 3), ("aaa", "bbbb", 4),
            ("abcdef", "bcdefg", 2), ("aA", "AA", 1), (" ", "~", 1),
        ]:
            self.assertEqual(distance(one, two), found, (one, two))

    def test_change_by_change(self):
        for one in SHORT:
            found = distances_by_changes(one, "ab", 5)
            for two in SHORT:
                self.assertEqual(distance(one, two), found[two], (one, two))
        for one in words_of("abc", 2):
            found = distances_by_changes(one, "abc", 4)
            for two in words_of("abc", 3):
                self.assertEqual(distance(one, two), found[two], (one, two))

    def test_long_words(self):
        for one, two in long_pairs():
            self.assertEqual(distance(one, two), plain_distance(one, two))
        self.assertEqual(distance("a" * 40, "b" * 40), 40)
        self.assertEqual(distance("a" * 39 + "b", "b" + "a" * 39), 2)

    def test_somewhat_beyond_the_limits(self):
        self.assertEqual(distance("ab" * 30, "ba" * 30), 2)


class DistanceTableTest(RaisingTest):
    def test_by_hand(self):
        self.assertEqual(distance_table("", ""), [[0]])
        self.assertEqual(distance_table("ab", ""), [[2], [1], [0]])
        self.assertEqual(distance_table("", "ab"), [[2, 1, 0]])
        self.assertEqual(distance_table("ab", "b"), [[1, 2], [0, 1], [1, 0]])
        self.assertEqual(distance_table("ab", "cab"), [[1, 0, 1, 2], [2, 1, 0, 1], [3, 2, 1, 0]])

    def test_short_words(self):
        for one, two in product(SHORT, repeat=2):
            self.assertEqual(distance_table(one, two), plain_table(one, two), (one, two))

    def test_long_words(self):
        for one, two in list(long_pairs())[:16]:
            self.assertEqual(distance_table(one, two), plain_table(one, two), (one, two))

    def test_new_each_time(self):
        for one, two in [("", ""), ("ab", "b")]:
            found = distance_table(one, two)
            told = deepcopy(found)
            self.assertEqual(len({id(row) for row in found}), len(found))
            for row in found:
                row.append(7)
            found.append([])
            self.assertEqual(distance_table(one, two), told)


class AlignmentTest(RaisingTest):
    def test_by_hand(self):
        self.assertEqual(alignment("", ""), [])
        self.assertEqual(alignment("ab", ""), [("out", "a"), ("out", "b")])
        self.assertEqual(alignment("", "ab"), [("put", "a"), ("put", "b")])
        self.assertEqual(alignment("ab", "cb"), [("change", "a", "c"), ("keep", "b")])
        self.assertEqual(alignment("kitten", "sitting"), [
            ("change", "k", "s"), ("keep", "i"), ("keep", "t"), ("keep", "t"), ("change", "e", "i"), ("keep", "n"),
            ("put", "g"),
        ])

    def test_steps_that_come_first(self):
        # Keeping before leaving out.
        self.assertEqual(alignment("aa", "a"), [("keep", "a"), ("out", "a")])
        self.assertEqual(alignment("a", "aa"), [("keep", "a"), ("put", "a")])
        # Exchanging before leaving out and before putting in.
        self.assertEqual(alignment("ab", "ba"), [("change", "a", "b"), ("change", "b", "a")])
        self.assertEqual(alignment("ab", "c"), [("change", "a", "c"), ("out", "b")])
        self.assertEqual(alignment("c", "ab"), [("change", "c", "a"), ("put", "b")])
        # Leaving out before putting in, where exchanging costs more.
        self.assertEqual(alignment("abc", "bca"), [("out", "a"), ("keep", "b"), ("keep", "c"), ("put", "a")])
        self.assertEqual(alignment("abcbc", "bcbca")[0], ("out", "a"))

    def test_first_one_of_the_best(self):
        for one, two in product(SHORT, repeat=2):
            expected = list(min(all_alignments(one, two), key=place_of))
            self.assertEqual(alignment(one, two), expected, (one, two))
        for one, two in product(words_of("abc", 3), repeat=2):
            self.assertEqual(alignment(one, two), list(min(all_alignments(one, two), key=place_of)))

    def test_long_words(self):
        for one, two in long_pairs():
            steps = alignment(one, two)
            self.assertEqual(steps, told_alignment(one, two))
            self.assertEqual(price(steps), plain_distance(one, two))
            self.assertEqual(plain_aligned(one, steps), two)

    def test_new_each_time(self):
        for one, two in [("", ""), ("ab", "ba")]:
            found = alignment(one, two)
            self.assertIs(type(found), list)
            self.assertTrue(all(type(step) is tuple for step in found))
            told = list(found)
            found.append(("put", "a"))
            self.assertEqual(alignment(one, two), told)


class AlignedTest(RaisingTest):
    def assert_aligned(self, one, steps):
        """The word or the error is the expected one."""
        expected = plain_aligned(one, steps)
        if isinstance(expected, int):
            self.assert_raises(BadStep, expected, aligned, one, steps)
        else:
            self.assertEqual(aligned(one, steps), expected)

    def test_by_hand(self):
        self.assertEqual(aligned("", []), "")
        self.assertEqual(aligned("ab", [("out", "a"), ("put", "x"), ("put", "y"), ("change", "b", "z")]), "xyz")
        self.assertEqual(aligned("ab", [("keep", "a"), ("keep", "b")]), "ab")
        self.assertEqual(aligned("", [("put", "a")] * 40), "a" * 40)
        # A higher price is no fault.
        self.assertEqual(aligned("a", [("put", "a"), ("out", "a")]), "a")

    def test_all_alignments_fit(self):
        for one, two in product(words_of("ab", 3), repeat=2):
            for steps in all_alignments(one, two):
                self.assertEqual(aligned(one, list(steps)), two)

    def test_steps_that_do_not_fit(self):
        self.assert_raises(BadStep, 0, aligned, "ab", [("keep", "b"), ("keep", "b")])
        self.assert_raises(BadStep, 0, aligned, "ab", [("out", "b"), ("out", "b")])
        self.assert_raises(BadStep, 0, aligned, "ab", [("change", "b", "c"), ("keep", "b")])
        self.assert_raises(BadStep, 1, aligned, "ab", [("keep", "a"), ("change", "b", "b")])
        self.assert_raises(BadStep, 1, aligned, "ab", [("put", "b"), ("change", "b", "b")])
        self.assert_raises(BadStep, 2, aligned, "ab", [("keep", "a"), ("keep", "b"), ("keep", "b")])
        self.assert_raises(BadStep, 2, aligned, "ab", [("put", "z"), ("keep", "a"), ("out", "a")])
        self.assert_raises(BadStep, 1, aligned, "a", [("out", "a"), ("change", "a", "b")])
        self.assert_raises(BadStep, 0, aligned, "", [("out", "a")])

    def test_letters_left_at_the_end(self):
        self.assert_raises(BadStep, 0, aligned, "a", [])
        self.assert_raises(BadStep, 0, aligned, "a" * 40, [])
        self.assert_raises(BadStep, 1, aligned, "ab", [("keep", "a")])
        self.assert_raises(BadStep, 3, aligned, "ab", [("put", "a"), ("put", "b"), ("put", "c")])

    def test_first_fault_counts(self):
        self.assert_raises(BadStep, 0, aligned, "ab", [("keep", "b"), ("change", "a", "a")])
        self.assert_raises(BadStep, 1, aligned, "abc", [("keep", "a"), ("out", "c"), ("keep", "z"), ("out", "z")])

    def test_single_changes(self):
        for one, two in product(words_of("ab", 2) + ["aba", "bbaa"], repeat=2):
            for steps in changed_steps(alignment(one, two)):
                self.assert_aligned(one, steps)

    def test_all_short_lists_of_steps(self):
        for size in range(3):
            for steps in product(STEPS, repeat=size):
                for one in ["", "a", "ab", "aa", "z"]:
                    self.assert_aligned(one, list(steps))


class IsLowTest(RaisingTest):
    def assert_low(self, one, two, table):
        """The answer is the plain one, and a bound from below is one."""
        expected = plain_low(one, two, table)
        self.assertIs(is_low(one, two, table), expected, (one, two, table))
        if expected:
            for row, best in zip(table, plain_table(one, two)):
                self.assertTrue(all(value <= other for value, other in zip(row, best)))
        return expected

    def test_by_hand(self):
        self.assertIs(is_low("", "", [[0]]), True)
        self.assertIs(is_low("", "", [[-GREAT]]), True)
        self.assertIs(is_low("", "", [[1]]), False)
        self.assertIs(is_low("a", "a", [[0, 1], [1, 0]]), True)
        self.assertIs(is_low("a", "a", [[1, 1], [1, 0]]), False)
        self.assertIs(is_low("a", "b", [[1, 1], [1, 0]]), True)
        self.assertIs(is_low("a", "b", [[2, 1], [1, 0]]), False)
        self.assertIs(is_low("ab", "", [[2], [1], [0]]), True)
        self.assertIs(is_low("ab", "", [[3], [1], [0]]), False)
        self.assertIs(is_low("", "ab", [[2, 1, 0]]), True)
        self.assertIs(is_low("", "ab", [[2, 2, 0]]), False)

    def test_zeros_and_less(self):
        for one, two in product(words_of("ab", 3), repeat=2):
            for number in [0, -1, -GREAT]:
                table = [[number] * (len(two) + 1) for _ in range(len(one) + 1)]
                self.assertIs(is_low(one, two, table), True)

    def test_wrong_forms(self):
        for one, two, table in [
            ("", "", []), ("", "", [[]]), ("", "", [[0, 0]]), ("", "", [[0], [0]]), ("a", "", [[0]]),
            ("a", "", [[0, 0]]), ("", "a", [[0], [0]]), ("a", "a", [[0, 0], [0]]), ("a", "a", [[0], [0, 0]]),
            ("a", "a", [[0, 0], []]), ("a", "a", [[], [0, 0]]), ("a", "a", [[0, 0], [0, 0, 0]]), ("a", "a", []),
            ("a", "a", [[0, 0]]), ("a", "a", [[0, 0], [0, 0], [0, 0]]), ("ab", "a", [[0, 0, 0], [0, 0, 0]]),
            ("a", "a", [[0, 0, 0], [0, 0]]), ("a", "a", [[], []]), ("a" * 40, "b" * 40, [[0] * 41] * 40),
        ]:
            self.assertIs(is_low(one, two, table), False, (one, two, table))

    def test_told_tables(self):
        for one, two in [*product(SHORT, repeat=2), *list(long_pairs())[:12]]:
            self.assertIs(is_low(one, two, plain_table(one, two)), True)

    def test_all_small_tables(self):
        for one, two in [("a", "a"), ("a", "b"), ("ab", "a"), ("ab", "b"), ("b", "ab"), ("a", "bb"), ("", "ab")]:
            rows = list(product(range(-1, 3), repeat=len(two) + 1))
            passed = 0
            for table in product(rows, repeat=len(one) + 1):
                passed += self.assert_low(one, two, [list(row) for row in table])
            self.assertGreater(passed, 0)

    def test_single_changes(self):
        for one, two in product(words_of("ab", 2) + ["aba", "bbaa"], repeat=2):
            for table in changed_tables(plain_table(one, two)):
                self.assert_low(one, two, table)

    def test_single_changes_of_a_long_one(self):
        one, two = "ab" * 20, "ba" * 19 + "bb"
        table = plain_table(one, two)
        for i, j in product([0, 1, 20, 39, 40], repeat=2):
            for more in [-1, 1]:
                other = deepcopy(table)
                other[i][j] += more
                self.assert_low(one, two, other)


class CheckDistanceTest(RaisingTest):
    def assert_check(self, one, two, number, steps, table):
        """The check tells what the point tells, and True only of the distance."""
        expected = (
            plain_low(one, two, table) and plain_aligned(one, steps) == two
            and price(steps) == number and table[0][0] == number
        )
        self.assertIs(check_distance(one, two, number, steps, table), expected, (one, two, number, steps, table))
        if expected:
            self.assertEqual(number, plain_distance(one, two))
        return expected

    def test_told_ones_pass(self):
        for one, two in [*product(SHORT, repeat=2), *long_pairs()]:
            arguments = [one, two, distance(one, two), alignment(one, two), distance_table(one, two)]
            self.assertIs(check_distance(*arguments), True)

    def test_other_numbers(self):
        for one, two in product(words_of("ab", 3), repeat=2):
            steps, table = alignment(one, two), distance_table(one, two)
            for number in [*range(-1, 6), 2 ** 32 - 1, GREAT, -GREAT]:
                passed = self.assert_check(one, two, number, steps, table)
                self.assertEqual(passed, number == plain_distance(one, two))

    def test_every_best_alignment_passes(self):
        for one, two in product(words_of("ab", 3), repeat=2):
            table, least = distance_table(one, two), distance(one, two)
            for steps in all_alignments(one, two):
                for number in {least, price(steps)}:
                    passed = self.assert_check(one, two, number, list(steps), table)
                    self.assertEqual(passed, number == price(steps) == least)

    def test_higher_price_with_a_table_that_says_so(self):
        # Neither the alignment nor the table shows it alone.
        steps = [("out", "a"), ("put", "b")]
        self.assertIs(check_distance("a", "b", 2, steps, [[2, 1], [1, 0]]), False)
        self.assertIs(check_distance("a", "b", 2, steps, [[1, 1], [1, 0]]), False)
        self.assertIs(check_distance("a", "b", 1, steps, [[1, 1], [1, 0]]), False)
        self.assertIs(check_distance("a", "b", 0, [("change", "a", "b")], [[0, 0], [0, 0]]), False)
        self.assertIs(check_distance("a", "b", 1, [("change", "a", "b")], [[0, 0], [0, 0]]), False)

    def test_other_tables_that_are_bounds(self):
        steps = alignment("ab", "cb")
        self.assertIs(check_distance("ab", "cb", 1, steps, [[1, 1, 1], [1, 0, 1], [0, 0, 0]]), True)
        self.assertIs(check_distance("ab", "cb", 1, steps, [[1, 0, 1], [0, 0, 1], [1, 1, 0]]), True)
        self.assertIs(check_distance("ab", "cb", 1, steps, [[1, 0, 1], [0, 0, 1], [1, 1, 1]]), False)
        self.assertIs(check_distance("ab", "cb", 1, steps, [[1, 0, -7], [0, 0, 1], [1, 1, 0]]), False)

    def test_single_changes(self):
        for one, two in product(words_of("ab", 2) + ["aba", "bbaa"], repeat=2):
            steps, table, number = alignment(one, two), distance_table(one, two), distance(one, two)
            for other in changed_steps(steps):
                self.assert_check(one, two, number, other, table)
                self.assert_check(one, two, price(other), other, table)
            for other in changed_tables(table):
                self.assert_check(one, two, number, steps, other)
                if other and other[0]:
                    self.assert_check(one, two, other[0][0], steps, other)

    def test_steps_that_do_not_fit_raise_nothing(self):
        table = distance_table("ab", "ab")
        for steps in [[], [("keep", "a")], [("keep", "b")], [("keep", "a"), ("change", "b", "b")], [("out", "z")]]:
            self.assertIs(check_distance("ab", "ab", 0, steps, table), False)

    def test_alignments_of_other_words(self):
        for one, two, three in product(words_of("ab", 2), repeat=3):
            steps = alignment(one, three)
            passed = self.assert_check(one, two, price(steps), steps, distance_table(one, two))
            self.assertEqual(passed, two == three)

    def test_what_is_passed_in_stays(self):
        for one, two in [("", ""), ("ab", "ba"), ("a" * 40, "ba" * 20)]:
            arguments = [one, two, distance(one, two), alignment(one, two), distance_table(one, two)]
            before = deepcopy(arguments)
            check_distance(*arguments)
            is_low(one, two, arguments[4])
            aligned(one, arguments[3])
            self.assertEqual(arguments, before)


if __name__ == "__main__":
    unittest.main()
