import unittest
from copy import deepcopy
from itertools import permutations, product
from random import Random

from suffixhouse.ends.order import check_order, common, commons_of, order_of
from suffixhouse.errors import NoText
from raising import RaisingTest
from reckoning import (
    large_houses, letters_of, mixed_houses, plain_common, plain_commons, plain_order, small_houses,
)

HOUSE = [(2, "aba"), (5, "b")]
ORDER = [(2, 3), (5, 1), (2, 2), (2, 0), (5, 0), (2, 1)]
COMMONS = [0, 0, 0, 1, 0, 1]
EQUAL = [(1, "aa"), (2, "aa")]


def houses():
    """Yield houses of all kinds."""
    yield from [[], [(4, "")], [(4, ""), (6, "")], HOUSE, EQUAL, [(1, "ab"), (2, "a"), (3, "abb"), (4, "")]]
    yield from list(small_houses())[::5]
    yield from mixed_houses()
    yield from large_houses()


class ByFirstLetters(str):
    """A text that gives single letters and counts them, and refuses to be cut or compared."""

    reads = 0

    def __getitem__(self, at):
        if not isinstance(at, int):
            raise AssertionError("a text is cut")
        ByFirstLetters.reads += 1
        return str.__getitem__(self, at)

    def refuse(self, *arguments):
        raise AssertionError("a text is compared or gone through")

    __eq__ = __ne__ = __lt__ = __le__ = __gt__ = __ge__ = __hash__ = refuse
    __iter__ = __contains__ = __add__ = startswith = endswith = find = index = refuse


class OrderTest(unittest.TestCase):
    def test_by_hand(self):
        self.assertEqual(order_of(HOUSE), ORDER)
        self.assertEqual(commons_of(HOUSE, ORDER), COMMONS)

    def test_empty_house_and_empty_texts(self):
        self.assertEqual(order_of([]), [])
        self.assertEqual(commons_of([], []), [])
        self.assertEqual(order_of([(4, "")]), [(4, 0)])
        self.assertEqual(commons_of([(4, "")], [(4, 0)]), [0])
        self.assertEqual(order_of([(4, ""), (16, "")]), [(4, 0), (16, 0)])
        self.assertEqual(commons_of([(4, ""), (16, "")], [(4, 0), (16, 0)]), [0, 0])

    def test_equal_texts(self):
        order = [(1, 2), (2, 2), (1, 1), (2, 1), (1, 0), (2, 0)]
        self.assertEqual(order_of(EQUAL), order)
        self.assertEqual(commons_of(EQUAL, order), [0, 0, 0, 1, 1, 2])

    def test_text_that_another_one_begins_with(self):
        house = [(1, "ab"), (2, "a")]
        order = [(1, 2), (2, 1), (2, 0), (1, 0), (1, 1)]
        self.assertEqual(order_of(house), order)
        self.assertEqual(commons_of(house, order), [0, 0, 0, 1, 0])

    def test_numbers_are_no_texts(self):
        # As a text, 10 would come before 9.
        self.assertEqual(order_of([(9, "z"), (10, "z")]), [(9, 1), (10, 1), (9, 0), (10, 0)])

    def test_all_houses(self):
        for house in houses():
            order = order_of(house)
            self.assertEqual(order, plain_order(house), house)
            self.assertEqual(commons_of(house, order), plain_commons(house), house)

    def test_number_of_ends(self):
        for house in houses():
            self.assertEqual(len(order_of(house)), sum(len(text) + 1 for _, text in house))

    def test_new_each_time(self):
        for house in [[], [(4, "")], HOUSE, EQUAL]:
            before = deepcopy(house)
            order = order_of(house)
            told = deepcopy(order)
            commons = commons_of(house, order)
            self.assertEqual(order, told)
            order.append((9, 9))
            self.assertEqual(order_of(house), told)
            again = list(commons)
            commons.append(9)
            self.assertEqual(commons_of(house, told), again)
            self.assertEqual(house, before)

    def test_kinds_of_values(self):
        for house in [HOUSE, EQUAL]:
            order = order_of(house)
            self.assertIs(type(order), list)
            self.assertTrue(all(type(end) is tuple for end in order))
            commons = commons_of(house, order)
            self.assertIs(type(commons), list)
            self.assertTrue(all(type(number) is int for number in commons))


class CommonTest(RaisingTest):
    def assert_no_text(self, k, house, one, two):
        """The call finds that the first or the second one is no end."""
        self.assert_raises(NoText, k, common, house, one, two)

    def test_by_hand(self):
        self.assertEqual(common(HOUSE, (2, 0), (2, 2)), 1)
        self.assertEqual(common(HOUSE, (2, 2), (2, 0)), 1)
        self.assertEqual(common(HOUSE, (2, 1), (5, 0)), 1)
        self.assertEqual(common(HOUSE, (2, 0), (5, 0)), 0)
        self.assertEqual(common(HOUSE, (2, 3), (2, 0)), 0)
        self.assertEqual(common(HOUSE, (2, 3), (5, 1)), 0)

    def test_end_and_itself(self):
        for house in [HOUSE, EQUAL, *large_houses()]:
            for end in plain_order(house):
                self.assertEqual(common(house, end, end), len(letters_of(house, end)))

    def test_equal_texts(self):
        self.assertEqual(common(EQUAL, (1, 0), (2, 0)), 2)
        self.assertEqual(common(EQUAL, (1, 0), (2, 1)), 1)
        self.assertEqual(common(EQUAL, (1, 2), (2, 2)), 0)

    def test_unlike_in_the_middle(self):
        self.assertEqual(common([(1, "abcab"), (2, "abxab")], (1, 0), (2, 0)), 2)
        self.assertEqual(common([(1, "cab"), (2, "ab")], (1, 1), (2, 0)), 2)

    def test_neighbours(self):
        for house in houses():
            order = plain_order(house)
            for one, two in zip(order, order[1:]):
                self.assertEqual(common(house, one, two), plain_common(house, one, two))
                self.assertEqual(common(house, two, one), plain_common(house, one, two))

    def test_all_pairs(self):
        for house in list(mixed_houses())[::10]:
            for one, two in product(plain_order(house), repeat=2):
                self.assertEqual(common(house, one, two), plain_common(house, one, two))

    def test_no_end(self):
        wrong = [
            (0, 0), (1, 0), (3, 0), (6, 1), (99, 0), (100, 0), (-1, 0), (-2, 1), (10 ** 6000, 0),
            (2, -1), (2, 4), (2, 5), (5, 2), (5, -1), (5, -2), (2, 10 ** 6000), (2, -(10 ** 6000)),
        ]
        for end in wrong:
            for other in ORDER:
                self.assert_no_text(0, HOUSE, end, other)
                self.assert_no_text(1, HOUSE, other, end)
            for other in wrong:
                self.assert_no_text(0, HOUSE, end, other)

    def test_least_and_greatest_start(self):
        self.assertEqual(common([(2, "")], (2, 0), (2, 0)), 0)
        self.assert_no_text(1, [(2, "")], (2, 0), (2, 1))
        self.assert_no_text(0, [(2, "")], (2, -1), (2, 1))

    def test_empty_house(self):
        self.assert_no_text(0, [], (0, 0), (0, 0))


class CheckOrderTest(unittest.TestCase):
    def assert_check(self, expected, house, order, commons):
        """The check answers as expected, and what is passed in stays as it is."""
        before = deepcopy((house, order, commons))
        self.assertIs(check_order(house, order, commons), expected, before)
        self.assertEqual((house, order, commons), before)

    def test_right_ones(self):
        self.assert_check(True, HOUSE, ORDER, COMMONS)
        for house in houses():
            self.assert_check(True, house, plain_order(house), plain_commons(house))

    def test_empty_house(self):
        self.assert_check(True, [], [], [])
        self.assert_check(False, [], [], [0])
        self.assert_check(False, [], [(0, 0)], [0])
        self.assert_check(False, [], [(0, 0)], [])

    def test_two_ends_exchanged(self):
        for house in [HOUSE, EQUAL, *list(mixed_houses())[::15]]:
            order, commons = plain_order(house), plain_commons(house)
            for i in range(len(order)):
                for j in range(i):
                    wrong = list(order)
                    wrong[i], wrong[j] = wrong[j], wrong[i]
                    self.assert_check(False, house, wrong, commons)
                    both = list(commons)
                    both[i], both[j] = both[j], both[i]
                    self.assert_check(False, house, wrong, both)

    def test_neighbours_exchanged_in_large_houses(self):
        for house in large_houses():
            order, commons = plain_order(house), plain_commons(house)
            for i in range(0, len(order) - 1, 9):
                wrong = [*order[:i], order[i + 1], order[i], *order[i + 2:]]
                self.assert_check(False, house, wrong, commons)

    def test_end_left_out_or_twice_or_of_another_house(self):
        for house in [HOUSE, EQUAL, *list(mixed_houses())[::15]]:
            order, commons = plain_order(house), plain_commons(house)
            for at, end in enumerate(order):
                rest, without = order[:at] + order[at + 1:], commons[:at] + commons[at + 1:]
                self.assert_check(False, house, rest, commons)
                self.assert_check(False, house, rest, without)
                self.assert_check(False, house, order[:at] + [end] + order[at:], commons)
                self.assert_check(False, house, order[:at] + [end] + order[at:], commons[:at] + [0] + commons[at:])
                if at > 0:
                    self.assert_check(False, house, order[:at] + [order[at - 1]] + order[at + 1:], commons)
                for other in [
                    (end[0], 41), (end[0], -1), (100, end[1]), (-1, end[1]), (3, end[1] + 50),
                    (end[0], len(dict(house)[end[0]]) + 1), (10 ** 6000, -(10 ** 6000)), (end[1], 90 + end[0]),
                ]:
                    more = commons[:at] + [0] + commons[at:]
                    self.assert_check(False, house, order[:at] + [other] + order[at + 1:], commons)
                    self.assert_check(False, house, order[:at] + [other] + order[at:], more)

    def test_common_one_less_or_more(self):
        for house in [HOUSE, EQUAL, *list(mixed_houses())[::4]]:
            order, commons = plain_order(house), plain_commons(house)
            for at in range(len(order)):
                for more in [-1, 1, 2, -2, 2 ** 32, -(10 ** 6000)]:
                    wrong = list(commons)
                    wrong[at] += more
                    self.assert_check(False, house, order, wrong)
        for house in large_houses():
            order, commons = plain_order(house), plain_commons(house)
            for at in range(0, len(order), 11):
                for more in [-1, 1]:
                    wrong = list(commons)
                    wrong[at] += more
                    self.assert_check(False, house, order, wrong)

    def test_one_common_more_or_fewer(self):
        for house in [HOUSE, EQUAL, [(4, "")], *list(mixed_houses())[::15]]:
            order, commons = plain_order(house), plain_commons(house)
            self.assert_check(False, house, order, commons[:-1])
            self.assert_check(False, house, order, commons[1:])
            self.assert_check(False, house, order, [])
            for number in [0, 1, -1]:
                self.assert_check(False, house, order, commons + [number])
                self.assert_check(False, house, order, [number] + commons)

    def test_first_common_is_not_0(self):
        for number in [1, -1, 2 ** 32]:
            self.assert_check(False, [(4, "")], [(4, 0)], [number])
            self.assert_check(False, HOUSE, ORDER, [number, *COMMONS[1:]])

    def test_first_one_without_letters(self):
        # Just the numbers are in the wrong order, and not even for the other ends.
        self.assert_check(True, [(1, "a"), (2, "a")], [(1, 1), (2, 1), (1, 0), (2, 0)], [0, 0, 0, 1])
        self.assert_check(False, [(1, "a"), (2, "a")], [(2, 1), (1, 1), (2, 0), (1, 0)], [0, 0, 0, 1])
        self.assert_check(False, [(1, ""), (2, "")], [(2, 0), (1, 0)], [0, 0])
        # Just the common is wrong.
        for number in [1, -1]:
            self.assert_check(False, [(1, ""), (2, "")], [(1, 0), (2, 0)], [0, number])
            self.assert_check(False, [(1, "a")], [(1, 1), (1, 0)], [0, number])
        self.assert_check(True, [(1, ""), (2, "")], [(1, 0), (2, 0)], [0, 0])
        self.assert_check(True, [(1, "a")], [(1, 1), (1, 0)], [0, 0])
        # The number of an end with letters may be less.
        self.assert_check(True, [(1, "a"), (2, "")], [(1, 1), (2, 0), (1, 0)], [0, 0, 0])

    def test_second_one_without_letters(self):
        for number in [0, 1, -1]:
            self.assert_check(False, [(1, "a")], [(1, 0), (1, 1)], [0, number])
            self.assert_check(False, [(1, ""), (2, "a")], [(1, 0), (2, 0), (2, 1)], [0, 0, number])

    def test_first_letters_differ(self):
        self.assert_check(True, [(1, "ab")], [(1, 2), (1, 0), (1, 1)], [0, 0, 0])
        self.assert_check(False, [(1, "ab")], [(1, 2), (1, 1), (1, 0)], [0, 0, 0])
        for number in [1, -1]:
            self.assert_check(False, [(1, "ab")], [(1, 2), (1, 0), (1, 1)], [0, 0, number])

    def test_first_letters_are_equal(self):
        self.assert_check(True, [(1, "aa")], [(1, 2), (1, 1), (1, 0)], [0, 0, 1])
        for number in range(-1, 4):
            self.assert_check(False, [(1, "aa")], [(1, 2), (1, 0), (1, 1)], [0, 0, number])
        for number in [-1, 0, 2, 3]:
            self.assert_check(False, [(1, "aa")], [(1, 2), (1, 1), (1, 0)], [0, 0, number])
        # Equal letters, but the numbers in the wrong order in the end.
        self.assert_check(True, EQUAL, [(1, 2), (2, 2), (1, 1), (2, 1), (1, 0), (2, 0)], [0, 0, 0, 1, 1, 2])
        self.assert_check(False, EQUAL, [(1, 2), (2, 2), (2, 1), (1, 1), (1, 0), (2, 0)], [0, 0, 0, 1, 1, 2])
        self.assert_check(False, EQUAL, [(1, 2), (2, 2), (1, 1), (2, 1), (2, 0), (1, 0)], [0, 0, 0, 1, 1, 2])

    def test_least_common_in_between(self):
        # The two ends with an "a" are neighbours; what is left of them behind it is
        # not, and there the least common is not the first one, or not the last one.
        for house, end, between in [
            ([(1, "ab"), (2, "ac"), (3, "bx")], (2, 0), [1, 0]),
            ([(1, "ab"), (2, "ad2"), (3, "d1")], (2, 0), [0, 1]),
            ([(1, "ab"), (2, "adz"), (3, "bx"), (4, "d1")], (2, 0), [1, 0, 1]),
        ]:
            order, commons = plain_order(house), plain_commons(house)
            first, second = order.index((1, 1)), order.index((2, 1))
            self.assertEqual(commons[first + 1:second + 1], between)
            self.assert_check(True, house, order, commons)
            at = order.index(end)
            self.assertEqual(commons[at], 1)
            for number in [0, 2]:
                self.assert_check(False, house, order, commons[:at] + [number] + commons[at + 1:])

    def test_commons_that_hang_together(self):
        # A wrong common that is carried on from end to end is still found.
        house = [(1, "aaaa"), (2, "aaaa")]
        order, commons = plain_order(house), plain_commons(house)
        for more in [-1, 1]:
            for first in range(len(order)):
                for step in (1, 2):
                    wrong = list(commons)
                    for at in range(first, len(order), step):
                        wrong[at] += more
                    self.assert_check(False, house, order, wrong)

    def test_nothing_else_passes(self):
        for house in [
            [(1, "aa")], [(1, "ab")], [(1, "ba")], [(1, "a"), (2, "")], [(1, ""), (2, "a")],
            [(1, "a"), (2, "a")], [(1, "b"), (2, "a")], [(1, "aba")], [(1, "aaa")], [(0, "a"), (1, ""), (2, "")],
        ]:
            right = (plain_order(house), plain_commons(house))
            numbers = range(-1, 4) if len(right[0]) < 4 else range(0, 3)
            for order in permutations(right[0]):
                for commons in product(numbers, repeat=len(order)):
                    passed = check_order(house, list(order), list(commons))
                    self.assertIs(passed, (list(order), list(commons)) == right, (house, order, commons))

    def test_any_integers(self):
        chance = Random(306)
        greatest = 2 ** 32 - 1
        for house in [[], [(4, "")], HOUSE, EQUAL, *list(mixed_houses())[::20]]:
            order, commons = plain_order(house), plain_commons(house)
            for size in range(len(order) + 3):
                pairs = [(chance.randint(-3, 9), chance.randint(-3, 9)) for _ in range(size)]
                numbers = [chance.choice([0, 0, 1, 2, -1, greatest]) for _ in range(size)]
                expected = (pairs, numbers) == (order, commons)
                self.assert_check(expected, house, pairs, numbers)
                self.assert_check(pairs == order, house, pairs, commons)
                self.assert_check(numbers == commons, house, order, numbers)

    def test_mixed_up_orders(self):
        chance = Random(1 << 306)
        for house in list(mixed_houses())[::6]:
            order, commons = plain_order(house), plain_commons(house)
            for _ in range(20):
                mixed = chance.sample(order, len(order))
                fitting = [
                    0 if at == 0 else plain_common(house, mixed[at - 1], mixed[at]) for at in range(len(mixed))
                ]
                self.assert_check(mixed == order, house, mixed, fitting)

    def test_order_of_another_house(self):
        for house in [HOUSE, EQUAL]:
            for other in [[(2, "abb"), (5, "b")], [(2, "aba"), (4, "b")], [(1, "aa"), (2, "ab")], [(2, "aba")], []]:
                self.assert_check(False, house, plain_order(other), plain_commons(other))

    def test_no_more_than_first_letters_are_compared(self):
        for house in [HOUSE, *large_houses()]:
            closed = [(number, ByFirstLetters(text)) for number, text in house]
            order, commons = plain_order(house), plain_commons(house)
            ByFirstLetters.reads = 0
            self.assertIs(check_order(closed, order, commons), True)
            self.assertLessEqual(ByFirstLetters.reads, 4 * len(order))

    def test_somewhat_beyond_the_limits(self):
        house = [(number, "ab" * (number - 80)) for number in range(95, 107)]
        self.assert_check(True, house, order_of(house), commons_of(house, order_of(house)))
        self.assertEqual(order_of(house), plain_order(house))


if __name__ == "__main__":
    unittest.main()
