"""linpapers/rowtext.py: every fault of the text of a comparison and of a system, with its place."""

import unittest

from linpapers.errors import LineError, LinpapersError, TextError
from linpapers.rowtext import read_row, read_system


class Faults(unittest.TestCase):
    def check(self, text, place, what):
        with self.assertRaises(TextError) as caught:
            read_row(text)
        self.assertEqual((caught.exception.place, caught.exception.what), (place, what), text)

    def check_in_front(self, text, place, what):
        """Check a text that may begin a comparison or its right side, also behind spaces."""
        self.check(text, place, what)
        for front in ("  ", "x <= ", "x <= - ", "2 x - y + ", "x<="):
            self.check(front + text, len(front) + place, what)


class NoTokens(Faults):
    def test_characters_that_are_no_token(self):
        for char in "!\"#$&'()*,.:;?@[\\]^_`{|}~":
            self.check_in_front(char, 0, "not a token")
            self.check("x" + char + " <= 1", 1, "not a token")
            self.check("x " + char + " <= 1", 2, "not a token")
            self.check("x <= 1" + char, 6, "not a token")
            self.check("x <= 1  " + char, 8, "not a token")
            self.check("2" + char + "x <= 1", 1, "not a token")
            self.check("x <" + char + " 1", 3, "not a token")

    def test_capital_letters(self):
        self.check_in_front("X <= 1", 0, "not a token")
        self.check("xY <= 1", 1, "not a token")
        self.check("x <= 2 Z", 7, "not a token")
        self.check("abC", 2, "not a token")

    def test_newlines(self):
        self.check("\n", 0, "not a token")
        self.check("x\n<= 1", 1, "not a token")
        self.check("x <= 1\n", 6, "not a token")
        self.check("\nx <= 1", 0, "not a token")
        self.check("x <= \n1", 5, "not a token")

    def test_zeros_in_front(self):
        self.check_in_front("00", 1, "not a token")
        self.check_in_front("01 x", 1, "not a token")
        self.check_in_front("0123456789", 1, "not a token")
        self.check_in_front("00/5", 1, "not a token")
        self.check("x <= 05", 6, "not a token")

    def test_the_seventh_digit(self):
        self.check_in_front("1234567", 6, "not a token")
        self.check_in_front("1234567 x", 6, "not a token")
        self.check_in_front("1234567/2", 6, "not a token")
        self.check_in_front("1000000", 6, "not a token")
        self.check_in_front("123456789012", 6, "not a token")
        self.check_in_front("1/1234567", 8, "not a token")
        self.check_in_front("123456/1234567 x", 13, "not a token")
        self.check_in_front("0/7654321", 8, "not a token")

    def test_a_slash_without_right_digits(self):
        for behind in ("", " ", "x", " 2", "+ 1", "/2", "-2", "0", "05", "00", "0/1", "\n", "A"):
            self.check_in_front("1/" + behind, 1, "not a token")
            self.check_in_front("123456/" + behind, 6, "not a token")
            self.check_in_front("0/" + behind, 1, "not a token")

    def test_a_slash_that_stands_elsewhere(self):
        self.check_in_front("/2", 0, "not a token")
        self.check_in_front("1/2/3", 3, "not a token")
        self.check_in_front("1 /2", 2, "not a token")
        self.check("x/2 <= 1", 1, "not a token")
        self.check("x <= 1 / 2", 7, "not a token")

    def test_the_ninth_character(self):
        self.check_in_front("abcdefghi", 8, "not a token")
        self.check_in_front("a23456789", 8, "not a token")
        self.check_in_front("abcdefgh0 <= 1", 8, "not a token")
        self.check_in_front("2 abcdefghijkl", 10, "not a token")
        self.check_in_front("a1234567z9", 8, "not a token")

    def test_the_first_fault_counts(self):
        self.check("01 ! x +", 1, "not a token")
        self.check("x ? < <", 2, "not a token")
        self.check("! x x", 0, "not a token")


class NotExpected(Faults):
    def test_at_the_start(self):
        for token in ("+", "<=", "<", "=", ">=", ">"):
            self.check(token, 0, "not expected")
            self.check(token + " x <= 1", 0, "not expected")
            self.check("  " + token + "x", 2, "not expected")

    def test_behind_a_minus_in_front(self):
        for token in ("+", "-", "<=", "<", "=", ">=", ">"):
            self.check("-" + token + "x <= 1", 1, "not expected")
            self.check("x <= -  " + token, 8, "not expected")

    def test_behind_a_plus_or_a_minus(self):
        for front in ("x +", "x -", "2 -", "3 x +", "x < y +", "x < 1/2 -"):
            for token in ("+", "-", "<=", "<", "=", ">=", ">"):
                self.check(front + " " + token, len(front) + 1, "not expected")

    def test_behind_a_sign(self):
        for sign in ("<=", "<", "=", ">=", ">"):
            for token in ("+", "<=", "<", "=", ">=", ">"):
                self.check("x " + sign + " " + token + " 1", len(sign) + 3, "not expected")

    def test_signs_are_as_long_as_possible(self):
        self.check("x =< 1", 3, "not expected")
        self.check("x => 1", 3, "not expected")
        self.check("x == 1", 3, "not expected")
        self.check("x <> 1", 3, "not expected")
        self.check("x <== 1", 4, "not expected")
        self.check("x <<= 1", 3, "not expected")
        self.check("x < = 1", 4, "not expected")

    def test_behind_an_item(self):
        for front in ("", "x <= ", "y - "):
            self.check(front + "x y", len(front) + 2, "not expected")
            self.check(front + "x 2", len(front) + 2, "not expected")
            self.check(front + "2 x y", len(front) + 4, "not expected")
            self.check(front + "2 x 3", len(front) + 4, "not expected")
            self.check(front + "1 2", len(front) + 2, "not expected")
            self.check(front + "1/2 3/4", len(front) + 4, "not expected")
            self.check(front + "1 2 x", len(front) + 2, "not expected")

    def test_behind_the_whole_comparison(self):
        self.check("x <= 1 2", 7, "not expected")
        self.check("x <= y z", 7, "not expected")
        self.check("x <= 2 y 1", 9, "not expected")

    def test_a_second_sign(self):
        for sign in ("<=", "<", "=", ">=", ">"):
            self.check("1 < x " + sign + " 2", 6, "not expected")
            self.check("1 = 2 x" + sign, 7, "not expected")
            self.check("1 >= 2 - x " + sign, 11, "not expected")

    def test_it_goes_ahead_of_a_character_directly_behind(self):
        self.check("x 01 <= 1", 2, "not expected")
        self.check("x 00", 2, "not expected")
        self.check("x 1234567", 2, "not expected")
        self.check("x 1/0", 2, "not expected")
        self.check("x 2/", 2, "not expected")
        self.check("x 1/1234567", 2, "not expected")
        self.check("x abcdefghi", 2, "not expected")
        self.check("x yZ", 2, "not expected")
        self.check("x <= 1 <!", 7, "not expected")
        self.check("+?", 0, "not expected")
        self.check("x <= 1 y z\n", 9, "not expected")
        self.check("--!", 1, "not expected")
        self.check("<=\n", 0, "not expected")

    def test_the_first_fault_counts(self):
        self.check("x y !", 2, "not expected")
        self.check("x + + 01", 4, "not expected")
        self.check("x x <= < 1", 2, "not expected")
        self.check("<= ", 0, "not expected")


class NotFinished(Faults):
    def test_nothing(self):
        self.check("", 0, "not finished")
        self.check(" ", 1, "not finished")
        self.check("     ", 5, "not finished")

    def test_without_a_sign(self):
        for text in ("x", "2", "1/2", "2 x", "-x", "x + y", "x - 1/2 y", "123456", "abcdefgh", "0"):
            self.check(text, len(text), "not finished")
            self.check(text + "  ", len(text) + 2, "not finished")

    def test_behind_a_minus_a_plus_or_a_sign(self):
        for text in ("-", "x -", "x +", "2 x +", "x <= -", "x <= 1 +", "x <= y -", "x <=", "x <", "x =", "x >=",
                     "2 >", "-x="):
            self.check(text, len(text), "not finished")
            self.check(text + "   ", len(text) + 3, "not finished")


class SystemFaults(unittest.TestCase):
    def check(self, text, line, place, what):
        with self.assertRaises(LineError) as caught:
            read_system(text)
        error = caught.exception
        self.assertEqual((error.line, error.place, error.what), (line, place, what), text)
        self.assertIsInstance(error, LinpapersError)
        self.assertNotIsInstance(error, TextError)

    def test_an_empty_line(self):
        self.check("\n", 1, 0, "not finished")
        self.check("\nx <= 1", 1, 0, "not finished")
        self.check("x <= 1\n\n", 2, 0, "not finished")
        self.check("x <= 1\n\nx <= 2\n", 2, 0, "not finished")
        self.check("x <= 1\n  ", 2, 2, "not finished")
        self.check("  \n", 1, 2, "not finished")

    def test_the_place_in_its_line(self):
        self.check("x <= 1\ny <= 01\n", 2, 6, "not a token")
        self.check("x <= 1\nx <= 1\n x y", 3, 3, "not expected")
        self.check("x <= 1 +\n", 1, 8, "not finished")
        self.check("x <= 1\nx", 2, 1, "not finished")

    def test_the_first_wrong_line(self):
        self.check("x <= 1\ny\n! = 2\n", 2, 1, "not finished")
        self.check("x x\n\n", 1, 2, "not expected")

    def test_too_many_rows(self):
        self.check("x <= 1\n" * 9, 10, 0, "too many rows")
        self.check("x <= 1\n" * 8 + "x <= 1", 10, 0, "too many rows")
        self.check("0 <= 1\n" * 20, 21, 0, "too many rows")

    def test_too_many_unknowns(self):
        self.check("a + b + c + d + e <= 1", 2, 0, "too many unknowns")
        self.check("a + b <= 1\nc < d\ne = 1\n", 4, 0, "too many unknowns")
        self.check("a < 1\n" * 7 + "b + c + d < e\n", 9, 0, "too many unknowns")

    def test_a_wrong_line_goes_ahead(self):
        self.check("x <= 1\n" * 9 + "x\n", 10, 1, "not finished")
        self.check("x <= 1\n" * 8 + "x < !\n", 9, 4, "not a token")
        self.check("a + b + c + d + e <= 1\nx x", 2, 2, "not expected")
        self.check("x <= 1\n" * 9 + "\n", 10, 0, "not finished")

    def test_too_many_rows_go_ahead_of_too_many_unknowns(self):
        self.check("a + b + c + d + e <= 1\n" * 9, 10, 0, "too many rows")


if __name__ == "__main__":
    unittest.main()
