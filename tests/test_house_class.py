import unittest
from copy import deepcopy
from random import Random

from suffixhouse.ends.order import commons_of, order_of
from suffixhouse.errors import BadText, HouseError, NoChange, NoText, OutOfRange, TakenNumber, TooMany
from suffixhouse.houses.house import House
from suffixhouse.machines.machine import machine
from suffixhouse.texts import scans
from reckoning import (
    large_houses, mixed_houses, plain_commons, plain_machine, plain_order, plain_places, words_near, words_of,
)

PERCENT = chr(37)
TEXTS = ["", "a", "b", "ab", "aba", "abab", "bbb", "a" * 40, "ab" * 20, " ~", "1", "a:b"]
BAD_TEXTS = ["x" * 41, PERCENT, "a\nb", "\u00e4", "x" * 200]
NUMBERS = [0, 1, 2, 9, 10, 50, 98, 99]
BAD_NUMBERS = [-1, 100, 2 ** 32, -(10 ** 6000), 10 ** 6000]


class Watched(str):
    """A text that refuses to be read while it is closed."""

    closed = False

    def __getitem__(self, at):
        self.look()
        return str.__getitem__(self, at)

    def __iter__(self):
        self.look()
        return str.__iter__(self)

    def startswith(self, *arguments):
        self.look()
        return str.startswith(self, *arguments)

    def find(self, *arguments):
        self.look()
        return str.find(self, *arguments)

    def index(self, *arguments):
        self.look()
        return str.index(self, *arguments)

    def count(self, *arguments):
        self.look()
        return str.count(self, *arguments)

    def __contains__(self, word):
        self.look()
        return str.__contains__(self, word)

    def look(self):
        if Watched.closed:
            raise AssertionError("a text is read")


def house_of(pairs):
    """Return a house into which the pairs have been put, in their order."""
    house = House()
    for number, text in pairs:
        house.put(number, text)
    return house


def state_of_house(house):
    """Return all that a house tells of itself."""
    return deepcopy((house.texts(), house.machine(), house.order(), house.commons(), house.history()))


class HouseTest(unittest.TestCase):
    def assert_raises(self, error, at, house, name, *arguments):
        """The call raises just this error, and the house stays as it is."""
        before = state_of_house(house)
        with self.assertRaises(error) as caught:
            getattr(house, name)(*arguments)
        self.assertIs(type(caught.exception), error)
        self.assertTrue(caught.exception.at == at)
        self.assertEqual(state_of_house(house), before)

    def assert_holds(self, house, texts, history):
        """The house has the texts and the history, and what follows from the texts."""
        self.assertEqual(house.texts(), texts)
        self.assertEqual(house.machine(), machine(texts))
        self.assertEqual(house.order(), order_of(texts))
        self.assertEqual(house.commons(), commons_of(texts, order_of(texts)))
        self.assertEqual(house.history(), history)

    def assert_finds(self, house, words):
        """The house finds words where the plain scans do."""
        texts = house.texts()
        for word in words:
            self.assertEqual(house.places(word), plain_places(texts, word), (texts, word))
            self.assertEqual(house.places(word), scans.places(texts, word))
            self.assertEqual(house.count(word), scans.count(texts, word))


class ChangesTest(HouseTest):
    def test_new_house_is_empty(self):
        house = House()
        self.assert_holds(house, [], [])
        self.assertEqual(house.machine(), [{}])

    def test_by_hand(self):
        house = House()
        self.assertIsNone(house.put(5, "b"))
        self.assertIsNone(house.put(2, "aba"))
        self.assertEqual(house.texts(), [(2, "aba"), (5, "b")])
        self.assertEqual(house.machine(), [
            {"a": 1, "b": 2, 2: 5, 5: 5}, {"b": 3, 2: 5}, {"a": 4, 5: 5}, {"a": 4}, {2: 5}, {},
        ])
        self.assertEqual(house.order(), [(2, 3), (5, 1), (2, 2), (2, 0), (5, 0), (2, 1)])
        self.assertEqual(house.commons(), [0, 0, 0, 1, 0, 1])
        self.assertEqual(house.history(), [("put", 5, "b"), ("put", 2, "aba")])
        self.assertEqual(house.take(5), "b")
        self.assert_holds(house, [(2, "aba")], [("put", 5, "b"), ("put", 2, "aba"), ("take", 5, "b")])
        self.assertEqual(house.take(2), "aba")
        self.assertEqual(house.texts(), [])
        self.assertEqual(house.machine(), [{}])
        self.assertEqual(house.order(), [])
        self.assertEqual(house.commons(), [])
        self.assertEqual(house.history()[2:], [("take", 5, "b"), ("take", 2, "aba")])

    def test_empty_and_equal_texts(self):
        house = house_of([(7, ""), (3, "xx"), (9, ""), (1, "xx")])
        self.assert_holds(house, [(1, "xx"), (3, "xx"), (7, ""), (9, "")], [
            ("put", 7, ""), ("put", 3, "xx"), ("put", 9, ""), ("put", 1, "xx"),
        ])
        self.assertEqual(house.take(7), "")
        self.assertEqual(house.take(3), "xx")
        self.assertEqual(house.texts(), [(1, "xx"), (9, "")])

    def test_errors_of_put(self):
        for house in [House(), house_of([(5, "b"), (99, "")]), house_of(list(zip(NUMBERS, TEXTS)))]:
            for number in BAD_NUMBERS:
                for text in ["", "a", "x" * 41]:
                    self.assert_raises(OutOfRange, number, house, "put", number, text)
            for number, _ in house.texts():
                for text in ["", "a", *BAD_TEXTS]:
                    self.assert_raises(TakenNumber, number, house, "put", number, text)
            for text in BAD_TEXTS:
                self.assert_raises(BadText, 60, house, "put", 60, text)

    def test_nine_texts(self):
        house = house_of(list(zip(NUMBERS, TEXTS)))
        self.assert_raises(TooMany, 60, house, "put", 60, "")
        self.assert_raises(TooMany, 61, house, "put", 61, "x" * 40)
        house.take(50)
        house.put(60, "")
        self.assert_raises(TooMany, 50, house, "put", 50, "abab")

    def test_errors_of_take(self):
        for house in [House(), house_of([(5, "b"), (99, "")])]:
            for number in [0, 4, 6, 98, *BAD_NUMBERS]:
                self.assert_raises(NoText, number, house, "take", number)
        house = house_of([(5, "b")])
        house.take(5)
        self.assert_raises(NoText, 5, house, "take", 5)

    def test_machine_and_order_do_not_depend_on_the_order_of_changes(self):
        chance = Random(701)
        for pairs in [*list(mixed_houses())[::10], *large_houses()]:
            for _ in range(3):
                mixed = chance.sample(pairs, len(pairs))
                house = house_of(mixed)
                for number, text in chance.sample(pairs, len(pairs) // 2):
                    house.take(number)
                    house.put(number, text)
                self.assertEqual(house.texts(), pairs)
                self.assertEqual(house.machine(), plain_machine(pairs))
                self.assertEqual(house.order(), plain_order(pairs))
                self.assertEqual(house.commons(), plain_commons(pairs))


class BackTest(HouseTest):
    def test_empty_history(self):
        self.assert_raises(NoChange, 0, House(), "back")
        self.assert_raises(NoChange, 0, House().copy(), "back")

    def test_errors_are_no_changes(self):
        house = House()
        self.assert_raises(BadText, 1, house, "put", 1, PERCENT)
        self.assert_raises(NoText, 1, house, "take", 1)
        self.assert_raises(NoChange, 0, house, "back")

    def test_back_of_a_put(self):
        house = house_of([(1, "ab"), (2, "b")])
        self.assertIsNone(house.back())
        self.assert_holds(house, [(1, "ab")], [("put", 1, "ab"), ("put", 2, "b"), ("take", 2, "b")])

    def test_back_of_a_take(self):
        house = house_of([(1, "ab"), (2, "b")])
        house.take(1)
        self.assertIsNone(house.back())
        self.assert_holds(house, [(1, "ab"), (2, "b")], [
            ("put", 1, "ab"), ("put", 2, "b"), ("take", 1, "ab"), ("put", 1, "ab"),
        ])

    def test_back_of_a_back(self):
        house = house_of([(1, "ab")])
        changes = [("put", 1, "ab"), ("take", 1, "ab")]
        for k in range(1, 7):
            house.back()
            self.assert_holds(house, [] if k % 2 else [(1, "ab")], (changes * 4)[:k + 1])

    def test_back_when_the_house_is_full(self):
        house = house_of(list(zip(NUMBERS, TEXTS)))
        house.take(0)
        house.back()
        self.assertEqual(house.texts(), list(zip(NUMBERS, TEXTS)))
        house.back()
        self.assertEqual(house.texts(), list(zip(NUMBERS, TEXTS))[1:])


class LongRowsTest(HouseTest):
    def expected_error(self, texts, history, step):
        """Return class and number of the error that a step has to raise, or None."""
        name, number, text = step
        if name == "back":
            return None if history else (NoChange, 0)
        if name == "take":
            return None if number in texts else (NoText, number)
        if not 0 <= number <= 99:
            return OutOfRange, number
        if number in texts:
            return TakenNumber, number
        if text in BAD_TEXTS:
            return BadText, number
        return (TooMany, number) if len(texts) == 8 else None

    def carry_out(self, texts, history, step):
        """Carry a step out that raises no error."""
        name, number, text = step
        if name == "back":
            last, number, text = history[-1]
            name = "take" if last == "put" else "put"
        if name == "put":
            texts[number] = text
        else:
            text = texts.pop(number)
        history.append((name, number, text))

    def run_row(self, chance, numbers, texts_to_put, steps):
        """Go through a long row of steps and compare the house after each of them."""
        house, texts, history = House(), {}, []
        for _ in range(steps):
            name = chance.choice(["put", "put", "put", "take", "take", "back"])
            step = (name, chance.choice(numbers), chance.choice(texts_to_put))
            arguments = {"put": step[1:], "take": step[1:2], "back": ()}[name]
            error = self.expected_error(texts, history, step)
            if error is not None:
                with self.assertRaises(HouseError) as caught:
                    getattr(house, name)(*arguments)
                self.assertTrue((type(caught.exception), caught.exception.at) == error)
            else:
                told = texts.get(step[1]) if name == "take" else None
                self.carry_out(texts, history, step)
                self.assertEqual(getattr(house, name)(*arguments), told)
            self.assert_holds(house, sorted(texts.items()), history)
        return house

    def test_rows_with_errors(self):
        for seed in range(12):
            chance = Random(seed)
            numbers = [*NUMBERS, 60, 61, 62, *BAD_NUMBERS]
            house = self.run_row(chance, numbers, [*TEXTS, *BAD_TEXTS], 120)
            self.assert_finds(house, words_of("ab", 3))

    def test_rows_of_good_steps(self):
        for seed in range(12):
            chance = Random(100 + seed)
            house = self.run_row(chance, NUMBERS, TEXTS, 60)
            self.assert_finds(house, words_near(house.texts()))

    def test_rows_of_chance_texts(self):
        for seed in range(6):
            chance = Random(200 + seed)
            texts = ["".join(chance.choices("abc", k=chance.randint(0, 40))) for _ in range(20)]
            house = self.run_row(chance, [*NUMBERS, 60], texts, 50)
            self.assert_finds(house, words_near(house.texts()))

    def test_back_and_back_again(self):
        house = House()
        for seed in range(40):
            try:
                house.put(seed * 7 % 100, TEXTS[seed % len(TEXTS)])
            except TooMany:
                house.take(house.texts()[0][0])
            house.back()
            once = house.texts()
            house.back()
            house.back()
            self.assertEqual(house.texts(), once)
            house.back()
            self.assert_holds(house, house.texts(), house.history())
        self.assertGreater(len(house.history()), 150)


class PlacesTest(HouseTest):
    def test_by_hand(self):
        house = house_of([(5, "b"), (2, "aba")])
        self.assertEqual(house.places("b"), [(2, 1), (5, 0)])
        self.assertEqual(house.count("b"), 2)
        self.assertEqual(house.places("aba"), [(2, 0)])
        self.assertEqual(house.places("bb"), [])
        self.assertEqual(house.count("bb"), 0)
        self.assertEqual(house.places("2"), [])

    def test_empty_house(self):
        emptied = house_of([(1, "ab")])
        emptied.take(1)
        for house in [House(), emptied]:
            for word in ["", "a", "ab", "1", "a" * 60]:
                self.assertEqual(house.places(word), [])
                self.assertEqual(house.count(word), 0)

    def test_empty_word(self):
        house = house_of([(4, ""), (2, "aa")])
        self.assertEqual(house.places(""), [(2, 0), (2, 1), (2, 2), (4, 0)])
        self.assertEqual(house.count(""), 4)
        for pairs in large_houses():
            self.assertEqual(house_of(pairs).count(""), 8 * 41)

    def test_longer_than_all_texts(self):
        for pairs in large_houses():
            house = house_of(pairs)
            for _, text in pairs:
                for word in [text + text[0], text + text[:20], text[-1] + text]:
                    self.assertEqual(house.places(word), [])
                    self.assertEqual(house.count(word), 0)

    def test_as_the_plain_scans(self):
        for pairs in [*list(mixed_houses())[::4], *large_houses()]:
            house = house_of(pairs)
            self.assert_finds(house, words_near(pairs))
            self.assert_finds(house, words_of("abc", 2))

    def test_after_each_change(self):
        house = House()
        for number, text in zip(NUMBERS, TEXTS[::-1]):
            house.put(number, text)
            self.assert_finds(house, words_of("ab", 3))
        for number in NUMBERS[::-1]:
            house.take(number)
            self.assert_finds(house, words_of("ab", 3))
            house.back()
            self.assert_finds(house, words_of("ab", 3))
            house.back()

    def test_without_a_scan_of_the_texts(self):
        house = house_of([(1, Watched("abab")), (4, Watched("")), (2, Watched("bab"))])
        Watched.closed = True
        try:
            with self.assertRaises(AssertionError):
                scans.places(house.texts(), "ab")
            self.assertEqual(house.places("ab"), [(1, 0), (1, 2), (2, 1)])
            self.assertEqual(house.count("b"), 4)
            self.assertEqual(house.places("aa"), [])
            self.assertEqual(house.count(""), 10)
        finally:
            Watched.closed = False


class WhatIsReturnedTest(HouseTest):
    def test_new_each_time(self):
        for pairs in [[], [(4, "")], [(2, "aba"), (5, "b")], [(1, "ab"), (3, "ab")]]:
            house = house_of(pairs)
            house.put(50, "new")
            house.take(50)
            before = state_of_house(house)
            found = house.places("")
            for told in [house.texts(), house.order(), house.commons(), house.history(), house.places("")]:
                self.assertIs(type(told), list)
                told.append("more")
                told.reverse()
                told.clear()
            for row in house.machine():
                row["z"] = 0
                row[50] = 0
            told = house.machine()
            told.append({})
            told[0].clear()
            self.assertEqual(state_of_house(house), before)
            self.assertEqual(house.places(""), found)
            self.assertEqual(house.places("z"), [])
            house.put(60, "z")
            house.take(60)
            self.assertEqual(house.texts(), before[0])
            self.assertEqual(house.history()[:-2], before[4])

    def test_what_was_returned_stays(self):
        house = house_of([(2, "aba")])
        told = (house.texts(), house.machine(), house.order(), house.commons(), house.history(), house.places("a"))
        before = deepcopy(told)
        house.put(5, "bab")
        house.take(2)
        house.back()
        self.assertEqual(told, before)

    def test_kinds_of_values(self):
        house = house_of([(2, "aba"), (5, "b")])
        house.take(5)
        for row in [*house.texts(), *house.order(), *house.history(), *house.places("a")]:
            self.assertIs(type(row), tuple)
        for row in house.machine():
            self.assertIs(type(row), dict)
        self.assertIs(type(house.take(2)), str)
        self.assertIs(type(house.count("a")), int)


class CopyTest(HouseTest):
    def test_same_texts_and_history(self):
        for pairs in [[], [(4, "")], [(5, "b"), (2, "aba")]]:
            house = house_of(pairs)
            house.put(50, "new")
            house.back()
            other = house.copy()
            self.assertIs(type(other), House)
            self.assertIsNot(other, house)
            self.assertEqual(state_of_house(other), state_of_house(house))
            self.assert_finds(other, words_of("ab", 3))

    def test_go_on_independently(self):
        house = house_of([(5, "b"), (2, "aba")])
        before = state_of_house(house)
        other = house.copy()
        other.put(7, "ab")
        other.take(5)
        self.assertEqual(state_of_house(house), before)
        self.assert_finds(house, words_of("ab", 3))
        after = state_of_house(other)
        house.take(2)
        house.put(9, "~")
        self.assertEqual(state_of_house(other), after)
        self.assert_finds(other, words_of("ab", 3))
        begun = [("put", 5, "b"), ("put", 2, "aba")]
        self.assert_holds(house, [(5, "b"), (9, "~")], [*begun, ("take", 2, "aba"), ("put", 9, "~")])
        self.assert_holds(other, [(2, "aba"), (7, "ab")], [*begun, ("put", 7, "ab"), ("take", 5, "b")])

    def test_original_changed_first(self):
        house = house_of([(5, "b")])
        other = house.copy()
        house.put(6, "c")
        house.take(5)
        self.assert_holds(other, [(5, "b")], [("put", 5, "b")])
        other.back()
        self.assert_holds(other, [], [("put", 5, "b"), ("take", 5, "b")])
        self.assertEqual(house.texts(), [(6, "c")])

    def test_back_in_both(self):
        house = house_of([(5, "b"), (2, "aba")])
        other = house.copy()
        other.back()
        self.assertEqual(other.texts(), [(5, "b")])
        self.assertEqual(house.texts(), [(2, "aba"), (5, "b")])
        house.back()
        self.assertEqual(house.history(), other.history())
        house.back()
        self.assertEqual(house.texts(), [(2, "aba"), (5, "b")])
        self.assertEqual(other.texts(), [(5, "b")])

    def test_copy_of_a_copy(self):
        house = house_of([(1, "a")])
        other = house.copy()
        third = other.copy()
        other.put(2, "b")
        third.take(1)
        self.assertEqual([house.texts(), other.texts(), third.texts()], [[(1, "a")], [(1, "a"), (2, "b")], []])

    def test_two_new_houses_are_independent(self):
        one, two = House(), House()
        one.put(1, "a")
        self.assert_holds(two, [], [])


if __name__ == "__main__":
    unittest.main()
