import unittest
from copy import deepcopy

from suffixhouse.errors import (
    BadLine, BadText, NoText, OutOfRange, TakenNumber, TooMany, WrongOrder,
)
from suffixhouse.texts.house import (
    is_house, read_house, text_of, with_text, without_text, write_house,
)
from raising import RaisingTest

PERCENT = chr(37)
EVERY_LETTER = [chr(code) for code in range(32, 127) if code != 37]
NO_LETTERS = [PERCENT, "\n", "\t", "\r", "\0", chr(31), chr(127), chr(160), "\u00e4", "\u0660", "\U0001f600"]
FULL = [(number, "abc"[:number % 4]) for number in range(0, 80, 10)]
HOUSE = [(0, "zero"), (5, ""), (99, "a:b")]


class IsHouseTest(RaisingTest):
    def test_houses(self):
        for house in [
            [], HOUSE, FULL, [(0, "")], [(99, "x" * 40)], [(0, "same"), (1, "same")],
            [(4, "".join(EVERY_LETTER[:40])), (5, "".join(EVERY_LETTER[40:80])), (6, "".join(EVERY_LETTER[80:]))],
            [(number, "~" * 40) for number in range(92, 100)],
        ]:
            before = deepcopy(house)
            self.assertIs(is_house(house), True, house)
            self.assertEqual(house, before)

    def test_eight_pairs_but_not_nine(self):
        self.assertEqual(len(FULL), 8)
        self.assertIs(is_house(FULL), True)
        self.assertIs(is_house([*FULL, (99, "")]), False)
        self.assertIs(is_house([(number, "") for number in range(100)]), False)

    def test_wrong_numbers(self):
        for number in [-1, -2, 100, 101, 2 ** 40, -(2 ** 40), 10 ** 6000]:
            self.assertIs(is_house([(number, "a")]), False)
            self.assertIs(is_house(sorted([(number, "a"), (50, "b")])), False)

    def test_wrong_order(self):
        for numbers in [(5, 5), (5, 4), (0, 2, 1), (0, 0), (99, 99), (1, 2, 3, 3), (2, 1, 3), (5, -1)]:
            self.assertIs(is_house([(number, "a") for number in numbers]), False, numbers)
        self.assertIs(is_house([(5, "a"), (5, "b")]), False)

    def test_wrong_size(self):
        self.assertIs(is_house([(1, "x" * 40)]), True)
        self.assertIs(is_house([(1, "x" * 41)]), False)
        self.assertIs(is_house([(1, ""), (2, " " * 41), (3, "")]), False)
        self.assertIs(is_house([(1, "x" * 5000)]), False)

    def test_letters_and_others(self):
        for letter in EVERY_LETTER:
            self.assertIs(is_house([(1, letter)]), True, letter)
        for other in NO_LETTERS:
            for text in [other, "a" + other, other + "a", "ab" + other + "c", "x" * 39 + other]:
                self.assertIs(is_house([(1, text)]), False, repr(text))
                self.assertIs(is_house([(0, "a"), (1, text), (2, "b")]), False, repr(text))


class TextOfTest(RaisingTest):
    def test_texts(self):
        for number, text in HOUSE:
            self.assertEqual(text_of(HOUSE, number), text)

    def test_no_text(self):
        for number in [1, 4, 6, 98, 100, -1, 2 ** 32, -(10 ** 6000)]:
            self.assert_raises(NoText, number, text_of, HOUSE, number)
        self.assert_raises(NoText, 0, text_of, [], 0)


class WithTextTest(RaisingTest):
    def test_each_place(self):
        self.assertEqual(with_text([], 0, ""), [(0, "")])
        self.assertEqual(with_text([], 99, "z"), [(99, "z")])
        self.assertEqual(with_text([(5, "b")], 4, "z"), [(4, "z"), (5, "b")])
        self.assertEqual(with_text([(5, "b")], 6, "a"), [(5, "b"), (6, "a")])
        self.assertEqual(with_text([(5, "b"), (20, "c")], 10, "b"), [(5, "b"), (10, "b"), (20, "c")])
        self.assertEqual(with_text([(1, "b")], 2, "x" * 40), [(1, "b"), (2, "x" * 40)])
        self.assertEqual(with_text(FULL[:7], 99, "last"), [*FULL[:7], (99, "last")])

    def test_every_letter(self):
        for letter in EVERY_LETTER:
            self.assertEqual(with_text([], 7, letter), [(7, letter)])

    def test_new_list(self):
        house = [(1, "a")]
        found = with_text(house, 2, "b")
        found.append("more")
        self.assertEqual(house, [(1, "a")])
        self.assertEqual(with_text(house, 2, "b"), [(1, "a"), (2, "b")])

    def test_out_of_range(self):
        for number in [-1, 100, -(2 ** 40), 2 ** 32, 10 ** 6000]:
            self.assert_raises(OutOfRange, number, with_text, HOUSE, number, "a")

    def test_taken_number(self):
        for number, text in HOUSE:
            self.assert_raises(TakenNumber, number, with_text, HOUSE, number, text)

    def test_bad_text(self):
        for other in NO_LETTERS:
            for text in [other, "ab" + other, other + "ab"]:
                self.assert_raises(BadText, 3, with_text, HOUSE, 3, text)
        self.assert_raises(BadText, 0, with_text, [], 0, "x" * 41)
        self.assert_raises(BadText, 99, with_text, [], 99, "x" * 1000)

    def test_too_many(self):
        self.assert_raises(TooMany, 99, with_text, FULL, 99, "")
        self.assert_raises(TooMany, 1, with_text, FULL, 1, "x" * 40)

    def test_first_error_in_order(self):
        bad = "x" * 41
        self.assert_raises(OutOfRange, 100, with_text, FULL, 100, bad)
        self.assert_raises(OutOfRange, -1, with_text, FULL, -1, PERCENT)
        self.assert_raises(OutOfRange, -1, with_text, HOUSE, -1, bad)
        self.assert_raises(OutOfRange, 100, with_text, FULL, 100, "a")
        self.assert_raises(TakenNumber, 10, with_text, FULL, 10, bad)
        self.assert_raises(TakenNumber, 5, with_text, HOUSE, 5, PERCENT)
        self.assert_raises(TakenNumber, 10, with_text, FULL, 10, "a")
        self.assert_raises(BadText, 11, with_text, FULL, 11, bad)
        self.assert_raises(BadText, 11, with_text, FULL, 11, "\n")


class WithoutTextTest(RaisingTest):
    def test_each_place(self):
        self.assertEqual(without_text([(4, "a")], 4), [])
        for number, _ in FULL:
            before = list(FULL)
            self.assertEqual(without_text(FULL, number), [pair for pair in FULL if pair[0] != number])
            self.assertEqual(FULL, before)

    def test_equal_texts(self):
        self.assertEqual(without_text([(1, "a"), (2, "a")], 1), [(2, "a")])

    def test_new_list(self):
        house = [(1, "a"), (2, "b")]
        found = without_text(house, 2)
        found.clear()
        self.assertEqual(house, [(1, "a"), (2, "b")])
        self.assertEqual(without_text(house, 2), [(1, "a")])

    def test_no_text(self):
        for number in [1, 100, -1, 2 ** 32, 10 ** 6000]:
            self.assert_raises(NoText, number, without_text, HOUSE, number)
        self.assert_raises(NoText, 0, without_text, [], 0)

    def test_undoes_with_text(self):
        for number in [1, 50, 98]:
            self.assertEqual(without_text(with_text(HOUSE, number, "new"), number), HOUSE)


class WriteAndReadTest(RaisingTest):
    def test_there_and_back(self):
        for house, text in [
            ([], ""),
            ([(0, "")], "0:\n"),
            ([(0, ""), (99, "")], "0:\n99:\n"),
            ([(2, "aba"), (5, "b")], "2:aba\n5:b\n"),
            ([(9, ":"), (10, "::"), (11, "1:2"), (12, "12:")], "9::\n10:::\n11:1:2\n12:12:\n"),
            ([(1, "\\"), (2, "\\n"), (3, "a\\")], "1:\\\n2:\\n\n3:a\\\n"),
            ([(1, " "), (2, " a "), (3, "a b")], "1: \n2: a \n3:a b\n"),
            ([(40, "x" * 40)], "40:" + "x" * 40 + "\n"),
            ([(41, ":" * 40)], "41:" + ":" * 40 + "\n"),
            ([(number, "'\"{}~") for number in range(8)],
             "".join(f"{number}:'\"{{}}~\n" for number in range(8))),
        ]:
            before = deepcopy(house)
            self.assertEqual(write_house(house), text)
            self.assertEqual(read_house(text), house)
            self.assertEqual(house, before)
            self.assertIs(is_house(house), True)

    def test_there_and_back_for_each_letter_and_number(self):
        for letter in EVERY_LETTER:
            house = [(3, letter), (4, letter * 40)]
            self.assertEqual(read_house(write_house(house)), house)
        for number in range(100):
            self.assertEqual(write_house([(number, "a")]), str(number) + ":a\n")
            self.assertEqual(read_house(str(number) + ":a\n"), [(number, "a")])

    def test_full_house(self):
        house = [(number, "y" * 40) for number in range(92, 100)]
        self.assertEqual(read_house(write_house(house)), house)

    def test_pairs_are_tuples_in_a_new_list(self):
        found = read_house("1:a\n")
        self.assertIs(type(found), list)
        self.assertIs(type(found[0]), tuple)
        found.append("more")
        self.assertEqual(read_house("1:a\n"), [(1, "a")])

    def test_line_without_newline(self):
        self.assert_raises(BadLine, 0, read_house, "1:a")
        self.assert_raises(BadLine, 1, read_house, "1:a\n2:b")
        self.assert_raises(BadLine, 1, read_house, "1:a\n2")
        self.assert_raises(BadLine, 1, read_house, "1:a\n ")
        self.assert_raises(BadLine, 2, read_house, "1:a\n2:b\n0:" + "x" * 41)

    def test_line_without_number_and_colon(self):
        for line in [
            "", "a", ":", ":a", "1", "12", "1a:", " 1:a", "1 :a", "-1:a", "-0:a", "+1:a", "1;a",
            "a1:b", "1.0:a", "1_0:a", "00:a", "01:a", "05:", "007:", "000:a", "100:a", "101:", "999:a",
            "1000:a", "99999999999999999999:a", "0x1:a", "a:1:b", "''", "1\\:a",
        ]:
            self.assert_raises(BadLine, 0, read_house, line + "\n")
            self.assert_raises(BadLine, 0, read_house, line + "\n5:b\n")
            self.assert_raises(BadLine, 1, read_house, "0:b\n" + line + "\n")

    def test_empty_lines(self):
        self.assert_raises(BadLine, 0, read_house, "\n")
        self.assert_raises(BadLine, 0, read_house, "\n1:a\n")
        self.assert_raises(BadLine, 1, read_house, "1:a\n\n")
        self.assert_raises(BadLine, 1, read_house, "1:a\n\n2:b\n")

    def test_long_text(self):
        self.assertEqual(read_house("1:" + "x" * 40 + "\n"), [(1, "x" * 40)])
        self.assert_raises(BadText, 0, read_house, "1:" + "x" * 41 + "\n")
        self.assert_raises(BadText, 0, read_house, "1:" + ":" * 41 + "\n")
        self.assert_raises(BadText, 1, read_house, "1:a\n2:" + " " * 41 + "\n3:a\n")
        self.assert_raises(BadText, 0, read_house, "1:" + "x" * 900 + "\n")

    def test_wrong_order(self):
        self.assert_raises(WrongOrder, 1, read_house, "1:a\n1:b\n")
        self.assert_raises(WrongOrder, 1, read_house, "0:a\n0:a\n")
        self.assert_raises(WrongOrder, 1, read_house, "10:a\n9:b\n")
        self.assert_raises(WrongOrder, 2, read_house, "1:a\n3:b\n2:c\n")
        self.assert_raises(WrongOrder, 2, read_house, "1:a\n99:b\n1:c\n100:d\n")

    def test_nine_lines(self):
        lines = "".join(f"{number}:a\n" for number in range(8))
        self.assertEqual(len(read_house(lines)), 8)
        self.assert_raises(TooMany, 8, read_house, lines + "8:a\n")
        self.assert_raises(TooMany, 8, read_house, lines + "8:a\n9:a\n")
        self.assert_raises(TooMany, 8, read_house, lines + "8:a\nx\n")
        self.assert_raises(TooMany, 8, read_house, lines + "8:a\n9")

    def test_order_in_one_line(self):
        lines = "".join(f"{number}:a\n" for number in range(8))
        long = "x" * 41
        self.assert_raises(BadLine, 1, read_house, "5:a\n4:" + long)
        self.assert_raises(BadLine, 1, read_house, "5:a\n05:" + long + "\n")
        self.assert_raises(BadText, 1, read_house, "5:a\n5:" + long + "\n")
        self.assert_raises(BadLine, 8, read_house, lines + "8:a")
        self.assert_raises(BadLine, 8, read_house, lines + "x:a\n")
        self.assert_raises(BadLine, 8, read_house, lines + "\n")
        self.assert_raises(BadLine, 8, read_house, lines + "7:" + long)
        self.assert_raises(BadText, 8, read_house, lines + "8:" + long + "\n")
        self.assert_raises(BadText, 8, read_house, lines + "7:" + long + "\n")
        self.assert_raises(WrongOrder, 8, read_house, lines + "7:a\n")

    def test_first_line_with_a_fault(self):
        long = "x" * 41
        self.assert_raises(WrongOrder, 1, read_house, "5:a\n5:b\n\n")
        self.assert_raises(WrongOrder, 1, read_house, "5:a\n5:b\n6:c")
        self.assert_raises(BadText, 0, read_house, "5:" + long + "\n01:a\n")
        self.assert_raises(BadText, 1, read_house, "5:a\n6:" + long + "\n6:a\n7")
        self.assert_raises(BadLine, 0, read_house, "x\n5:" + long + "\n4:a\n")
        self.assert_raises(WrongOrder, 2, read_house, "1:a\n2:b\n2:c\n1:" + long + "\n")


if __name__ == "__main__":
    unittest.main()
