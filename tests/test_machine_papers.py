import unittest
from copy import deepcopy
from itertools import permutations, product

from suffixhouse.errors import OutOfRange
from suffixhouse.machines.machine import machine
from suffixhouse.papers.machines import check_machine, machine_paper, telling_row
from raising import RaisingTest
from reckoning import (
    few_houses, large_houses, mixed_houses, plain_ends, plain_machine, plain_states, rows_from, small_houses,
    words_of,
)

HOUSE = [(2, "aba"), (5, "b")]
GREAT = 10 ** 6000
# Houses of which every single change of the machine and of the paper is tried.
TINY = [
    [], [(3, "")], [(3, "a")], [(3, "aa")], [(3, "ab")], [(0, ""), (1, "")], [(0, ""), (1, "b")],
    [(1, "a"), (2, "a")], [(1, "ab"), (2, "b")], HOUSE, [(0, "b"), (1, "ab"), (99, "")], [(7, "1"), (8, "7")],
]


def plain_paper(house):
    """Return what `machine_paper` has to return."""
    if not house:
        return [("", [])]
    return [(shortest, pairs) for shortest, _, pairs, _ in plain_states(house)]


def leads_to(edges, word):
    """Return the state to which a word leads, or None."""
    state = 0
    for letter in word:
        state = edges[state].get(letter) if state is not None else None
    return state


def starts_right(house, edges, paper):
    """Tell the first three tests of point 502."""
    if not house:
        return len(edges) == 1 and len(paper) == 1 and edges[0] == {} and paper[0] == ("", [])
    if len(edges) != len(paper) + 1 or edges[-1] or not paper:
        return False
    if any(leads_to(edges, paper[state][0]) != state for state in range(len(paper))):
        return False
    everywhere = {(number, stop) for number, text in house for stop in range(len(text) + 1)}
    return paper[0][1] == sorted(everywhere)


def has_edges_of_pairs(house, edges, paper, state):
    """Tell the fourth test of point 502 for a state, sign by sign."""
    last = len(edges) - 1
    row, pairs = edges[state], paper[state][1]
    signs = set(row) | {letter for _, text in house for letter in text} | {number for number, _ in house}
    for sign in signs:
        behind = {
            (number, stop + 1) for number, text in house for stop in range(len(text))
            if (number, stop) in pairs and text[stop] == sign
        }
        marked = any((number, len(text)) in pairs and number == sign for number, text in house)
        if (sign in row) != (bool(behind) or marked):
            return False
        if behind and (row[sign] == last or paper[row[sign]][1] != sorted(behind)):
            return False
        if marked and row[sign] != last:
            return False
    return True


def plain_check(house, edges, paper):
    """Tell what `check_machine` has to tell, test by test as the point lists them."""
    if not starts_right(house, edges, paper):
        return False
    if house and not all(has_edges_of_pairs(house, edges, paper, state) for state in range(len(paper))):
        return False
    return all(one[1] != two[1] for at, one in enumerate(paper) for two in paper[:at])


def changed(rows, at, *others):
    """Return a list in which others stand in the place of one element."""
    return [*rows[:at], *others, *rows[at + 1:]]


def changed_edges(house, edges):
    """Yield all machines that differ from one in a single thing."""
    signs = ["a", "b", "z", "1", "ab", "", 0, 3, 7, 100, -1, GREAT] + [number for number, _ in house]
    for state, row in enumerate(edges):
        for sign in [*row, *signs]:
            yield changed(edges, state, {other: row[other] for other in row if other != sign})
            for after in range(len(edges)):
                yield changed(edges, state, {**row, sign: after})
        yield changed(edges, state, row, row)
        yield changed(edges, state, row, {})
        yield changed(edges, state, {}, row)
    for one in range(len(edges)):
        # What is left may have no number of a state that is not there.
        shorter = changed(edges, one)
        if shorter and all(after < len(shorter) for row in shorter for after in row.values()):
            yield shorter
        for two in range(one):
            exchanged = list(edges)
            exchanged[one], exchanged[two] = edges[two], edges[one]
            yield exchanged


def changed_pairs(house, pairs):
    """Yield all lists of pairs that differ from one in a single thing."""
    numbers = [number for number, _ in house] + [-1, 50]
    strange = list(product(numbers, [-2, -1, 0, 1, 2, 3, 4, GREAT]))
    yield pairs[::-1]
    yield []
    for at in range(len(pairs) + 1):
        yield from ([*pairs[:at], pair, *pairs[at:]] for pair in strange)
    for at, pair in enumerate(pairs):
        yield changed(pairs, at)
        yield changed(pairs, at, pair, pair)
        yield from (changed(pairs, at, other) for other in strange)
        if at:
            yield [*pairs[:at - 1], pairs[at], pairs[at - 1], *pairs[at + 1:]]


def changed_papers(house, paper):
    """Yield all papers that differ from one in a single thing."""
    for at, (word, pairs) in enumerate(paper):
        yield changed(paper, at)
        yield changed(paper, at, (word, pairs), (word, pairs))
        yield changed(paper, at, (word, pairs), (word, []))
        yield from (changed(paper, at, (other, pairs)) for other in words_of("ab1z", 3) + ["a" * 40])
        yield from (changed(paper, at, (word, other)) for other in changed_pairs(house, pairs))
        for other in range(at):
            exchanged = list(paper)
            exchanged[at], exchanged[other] = paper[other], paper[at]
            yield exchanged
            yield changed(paper, at, (word, paper[other][1]))
    yield []
    yield [*paper, ("", [])]


def renumbered(edges, paper, order):
    """Return machine and paper with the states but the start and the last one in another order."""
    order = [0, *order, len(edges) - 1]
    numbers = {state: at for at, state in enumerate(order)}
    rows = [{sign: numbers[after] for sign, after in edges[state].items()} for state in order]
    return rows, [paper[state] for state in order[:-1]]


class MachinePaperTest(RaisingTest):
    def test_by_hand(self):
        self.assertEqual(machine_paper(HOUSE), [
            ("", [(2, 0), (2, 1), (2, 2), (2, 3), (5, 0), (5, 1)]),
            ("a", [(2, 1), (2, 3)]),
            ("b", [(2, 2), (5, 1)]),
            ("ab", [(2, 2)]),
            ("ba", [(2, 3)]),
        ])
        self.assertEqual(machine_paper([]), [("", [])])
        self.assertEqual(machine_paper([(3, "")]), [("", [(3, 0)])])

    def test_all_houses(self):
        for house in [*few_houses(), *small_houses(), *large_houses()]:
            self.assertEqual(machine_paper(house), plain_paper(house), house)

    def test_new_each_time(self):
        for house in [[], [(3, "")], HOUSE]:
            before = deepcopy(house)
            found = machine_paper(house)
            told = deepcopy(found)
            self.assertTrue(all(type(row) is tuple for row in found))
            for _, pairs in found:
                pairs.append((0, 0))
            found.append(("z", []))
            self.assertEqual(machine_paper(house), told)
            self.assertEqual(house, before)


class CheckMachineTest(RaisingTest):
    def assert_check(self, house, edges, paper):
        """The check tells what the plain one tells, and True only of the best machines."""
        expected = plain_check(house, edges, paper)
        self.assertIs(check_machine(house, edges, paper), expected, (house, edges, paper))
        if expected:
            self.assertEqual(rows_from(edges, 0, len(edges) - 1), plain_ends(house))
            self.assertEqual(len(edges), len(machine(house)))
        return expected

    def test_told_ones_pass(self):
        for house in [*few_houses(), *small_houses(), *mixed_houses(), *large_houses()]:
            self.assertIs(check_machine(house, machine(house), machine_paper(house)), True, house)
        for house in few_houses():
            self.assertIs(plain_check(house, machine(house), plain_paper(house)), True, house)

    def test_single_changes_of_the_machine(self):
        for house in [*TINY, *list(small_houses())[::61]]:
            edges, paper = machine(house), plain_paper(house)
            for other in changed_edges(house, edges):
                self.assertIs(self.assert_check(house, other, paper), other == edges)

    def test_single_changes_of_the_paper(self):
        for house in [*TINY, *list(small_houses())[::61]]:
            edges, paper = machine(house), plain_paper(house)
            for other in changed_papers(house, paper):
                passed = self.assert_check(house, edges, other)
                self.assertEqual(passed, [pairs for _, pairs in other] == [pairs for _, pairs in paper] and all(
                    leads_to(edges, word) == state for state, (word, _) in enumerate(other)
                ))

    def test_each_word_of_a_class_is_accepted(self):
        for house in few_houses():
            if house:
                paper = [(longest, pairs) for _, longest, pairs, _ in plain_states(house)]
                self.assertIs(check_machine(house, plain_machine(house), paper), True)
        paper = machine_paper(HOUSE)
        self.assertIs(check_machine(HOUSE, machine(HOUSE), changed(paper, 4, ("aba", [(2, 3)]))), True)
        self.assertIs(check_machine(HOUSE, machine(HOUSE), changed(paper, 4, ("aab", [(2, 3)]))), False)

    def test_other_numbers_of_the_states(self):
        for house in [*TINY[1:], *list(small_houses())[::97]]:
            edges, paper = machine(house), plain_paper(house)
            for order in list(permutations(range(1, len(paper))))[:24]:
                others = renumbered(edges, paper, order)
                self.assertIs(self.assert_check(house, *others), True)
                if list(order) != sorted(order):
                    self.assertIs(self.assert_check(house, edges, others[1]), False)
                    self.assertIs(self.assert_check(house, others[0], paper), False)

    def test_every_machine_with_three_states(self):
        signs, house = ("a", "b", 3), [(3, "a")]
        rows = [
            {sign: after for sign, after in zip(signs, states) if after is not None}
            for states in product([None, 0, 1, 2], repeat=3)
        ]
        paper = plain_paper(house)
        passed = [edges for edges in product(rows, rows, [{}]) if self.assert_check(house, list(edges), paper)]
        self.assertEqual(passed, [tuple(machine(house))])

    def test_every_paper_with_few_pairs(self):
        house = [(3, "a")]
        edges = machine(house)
        lists = [list(pairs) for size in range(3) for pairs in product([(3, 0), (3, 1), (3, 2)], repeat=size)]
        rows = list(product(["", "a", "b"], lists))
        passed = [list(paper) for paper in product(rows, rows) if self.assert_check(house, edges, list(paper))]
        self.assertEqual(passed, [plain_paper(house)])

    def test_two_states_for_one_class(self):
        # It takes exactly the ends, but a machine with a state less does, too.
        house = [(1, "ab"), (2, "b")]
        edges = [{"a": 1, "b": 2, 1: 4, 2: 4}, {"b": 3}, {1: 4, 2: 4}, {1: 4}, {}]
        paper = plain_paper(house)
        self.assertIs(self.assert_check(house, edges, paper), True)
        edges = [{"a": 1, "b": 2, 1: 5, 2: 5}, {"b": 3}, {1: 5, 2: 5}, {1: 5}, {1: 5}, {}]
        for word in ["ab", "", "b"]:
            self.assertIs(self.assert_check(house, edges, [*paper, (word, [(1, 2)])]), False)
        house = [(1, "aa"), (2, "bb")]
        edges, paper = machine(house), plain_paper(house)
        self.assertIs(self.assert_check(house, edges, paper), True)

    def test_equal_pairs_are_refused(self):
        house = [(1, "xay"), (2, "xby")]
        edges, paper = machine(house), plain_paper(house)
        state = leads_to(edges, "xa")
        # A state of its own for "xa": all edges and pairs are right, but two states have the same.
        last = len(edges) - 1
        apart = [{sign: after + (after == last) for sign, after in row.items()} for row in edges]
        apart.insert(last, dict(apart[state]))
        apart[leads_to(edges, "x")]["a"] = last
        more = [*paper, ("xa", paper[state][1])]
        self.assertEqual(rows_from(apart, 0, last + 1), plain_ends(house))
        self.assertEqual(leads_to(apart, paper[state][0]), state)
        self.assertIs(self.assert_check(house, apart, more), False)

    def test_papers_of_other_houses(self):
        houses = [*TINY, [(2, "aba"), (6, "b")], [(2, "aba")], [(5, "b")], [(2, "bab"), (5, "a")]]
        for one, two, three in product(houses, repeat=3):
            passed = self.assert_check(one, machine(two), plain_paper(three))
            self.assertEqual(passed, one == two == three)

    def test_empty_house(self):
        for edges in [[{}], [{}, {}], [{"a": 0}], [{3: 0}], [{3: 1}, {}]]:
            for paper in [[], [("", [])], [("a", [])], [("", [(3, 0)])], [("", []), ("", [])]]:
                self.assertIs(self.assert_check([], edges, paper), (edges, paper) == ([{}], [("", [])]))

    def test_paper_without_tuples(self):
        for house in [[(3, "")], HOUSE]:
            for edges in [[{}], [{3: 0}], [{3: 1}, {}], machine(house)]:
                self.assertIs(self.assert_check(house, edges, []), False)

    def test_large_numbers_in_the_paper(self):
        paper = machine_paper(HOUSE)
        for pair in [(GREAT, 0), (2, GREAT), (-GREAT, -GREAT), (2, 2 ** 32), (5, -1), (2, -1), (2, -4)]:
            for state in range(len(paper)):
                word, pairs = paper[state]
                spoilt = changed(paper, state, (word, sorted([*pairs, pair])))
                self.assertIs(check_machine(HOUSE, machine(HOUSE), spoilt), False)

    def test_what_is_passed_in_stays(self):
        for house in [*TINY, *large_houses()]:
            arguments = [house, machine(house), machine_paper(house)]
            before = deepcopy(arguments)
            check_machine(*arguments)
            check_machine(house, arguments[1], arguments[2][:-1])
            self.assertEqual(arguments, before)


class TellingRowTest(RaisingTest):
    def test_by_hand(self):
        paper = machine_paper(HOUSE)
        self.assertEqual(telling_row(HOUSE, paper, 0, 1), ("aba", 2))
        self.assertEqual(telling_row(HOUSE, paper, 1, 2), ("ba", 2))
        self.assertEqual(telling_row(HOUSE, paper, 2, 3), ("", 5))
        self.assertEqual(telling_row(HOUSE, paper, 4, 1), ("ba", 2))
        self.assertEqual(telling_row(HOUSE, paper, 3, 4), ("a", 2))

    def test_all_pairs_of_states(self):
        for house in [*few_houses(), *list(mixed_houses())[::9]]:
            edges, paper = machine(house), plain_paper(house)
            last = len(edges) - 1
            behind = [set(rows_from(edges, state, last)) for state in range(len(paper))]
            texts = dict(house)
            for i, j in permutations(range(len(paper)), 2):
                pairs = [pair for state in (i, j) for pair in paper[state][1]]
                number, stop = min(pair for pair in pairs if pairs.count(pair) == 1)
                row = telling_row(house, paper, i, j)
                self.assertEqual(row, (texts[number][stop:], number))
                self.assertEqual(telling_row(house, paper, j, i), row)
                self.assertEqual(row in behind[i], row not in behind[j])
                self.assertEqual(row in behind[i], (number, stop) in paper[i][1])

    def test_out_of_range(self):
        paper = machine_paper(HOUSE)
        for i, j in [
            (0, 0), (4, 4), (5, 0), (0, 5), (-1, 0), (0, -1), (-1, -2), (5, 6), (5, 5), (-5, 4), (3, -2),
            (2 ** 32, 1), (GREAT, 0), (0, GREAT), (-GREAT, 2), (GREAT, GREAT),
        ]:
            self.assert_raises(OutOfRange, 0, telling_row, HOUSE, paper, i, j)
        for house in [[], [(3, "")]]:
            for i, j in product(range(-2, 3), repeat=2):
                self.assert_raises(OutOfRange, 0, telling_row, house, machine_paper(house), i, j)

    def test_what_is_passed_in_stays(self):
        paper = machine_paper(HOUSE)
        row = telling_row(HOUSE, paper, 0, 3)
        self.assertIs(type(row), tuple)
        self.assertEqual([type(value) for value in row], [str, int])
        self.assertEqual(paper, plain_paper(HOUSE))


if __name__ == "__main__":
    unittest.main()
