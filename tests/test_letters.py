"""Letters, marks, and marks as whole numbers [4, 5]."""

import unittest
from fractions import Fraction
from math import floor

from shelfmark.errors import NoLetters
from shelfmark.letters import ask_letters, is_mark, mark_of, whole_of
from tests.written_out import SIGNS, up_to

FAR = 10 ** 60 - 1
FARTHER = 7 ** 9000


def fraction_of(letters, mark):
    return sum(Fraction(SIGNS.index(sign), letters ** (place + 1)) for place, sign in enumerate(mark))


class AskLetters(unittest.TestCase):

    def test_all_that_there_are_give_back_nothing(self):
        for letters in range(2, 27):
            for hands in range(1, letters):
                with self.subTest(letters=letters, hands=hands):
                    self.assertIsNone(ask_letters(letters, hands))

    def test_letters_that_there_are_not(self):
        for letters in (1, 27, 28, 0, -1, -2, -26, FAR, -FAR, FARTHER, -FARTHER):
            with self.assertRaises(NoLetters):
                ask_letters(letters, 1)

    def test_letters_refused_whatever_the_hands(self):
        for letters in (1, 27, 0, -5):
            for hands in (-6, -1, 0, 1, 2, 26, 27):
                with self.subTest(letters=letters, hands=hands), self.assertRaises(NoLetters):
                    ask_letters(letters, hands)

    def test_hands_that_there_are_not(self):
        for letters in range(2, 27):
            for hands in (0, letters, letters + 1, -1, -letters, FAR, -FAR, FARTHER, -FARTHER):
                with self.assertRaises(NoLetters):
                    ask_letters(letters, hands)


class IsMark(unittest.TestCase):

    def check(self, letters, texts, answer):
        for text in texts:
            with self.subTest(letters=letters, text=text):
                self.assertIs(is_mark(letters, text), answer)

    def test_marks_of_two_letters(self):
        self.check(2, ["b", "ab", "bb", "aab", "abab", "a" * 299 + "b", "b" * 300, "b" * 1000], True)

    def test_marks_of_more_letters(self):
        self.check(3, ["b", "c", "ac", "cab", "ccc"], True)
        self.check(26, ["b", "z", "az", "mark", "shelf", "z" * 300], True)

    def test_the_text_without_signs(self):
        for letters in range(2, 27):
            self.check(letters, [""], False)

    def test_a_at_the_end(self):
        for letters in range(2, 27):
            self.check(letters, ["a", "aa", "ba", "bba", "b" * 299 + "a"], False)

    def test_each_letter_up_to_the_last_and_none_beyond(self):
        for letters in range(2, 27):
            for place, sign in enumerate(SIGNS):
                inside = place < letters
                self.check(letters, [sign + "b", "b" + sign + "b"], inside)
                self.check(letters, [sign, "b" + sign], inside and place > 0)

    def test_other_signs(self):
        for sign in "BZA 0189-_.`{~!\n\r":
            for letters in (2, 3, 26):
                self.check(letters, [sign, sign + "b", "b" + sign, "b" + sign + "b"], False)

    def test_line_ends(self):
        for letters in (2, 26):
            self.check(letters, ["\n", "b\n", "\nb", "b\nb", "b\n\n", "ab\n", "b\r\n"], False)


class WholeOf(unittest.TestCase):

    def check(self, letters, mark, long, answer):
        with self.subTest(letters=letters, mark=mark, long=long):
            whole = whole_of(letters, mark, long)
            self.assertEqual(whole, answer)
            self.assertIs(type(whole), int)

    def test_known_ones(self):
        self.check(10, "bcd", 0, 0)
        self.check(10, "bcd", 1, 1)
        self.check(10, "bcd", 2, 12)
        self.check(10, "bcd", 3, 123)
        self.check(10, "bcd", 4, 1230)
        self.check(10, "bcd", 6, 123000)
        self.check(10, "aaj", 2, 0)
        self.check(26, "z", 1, 25)
        self.check(2, "b", 1, 1)

    def test_the_fraction_at_all_lengths(self):
        for letters, long in ((2, 5), (3, 4), (4, 3), (26, 1)):
            for mark in up_to(letters, long):
                for size in range(0, long + 4):
                    self.check(letters, mark, size, floor(fraction_of(letters, mark) * letters ** size))

    def test_long_marks(self):
        self.check(2, "b" * 300, 300, 2 ** 300 - 1)
        self.check(2, "b" * 300, 299, 2 ** 299 - 1)
        self.check(2, "b" * 300, 400, (2 ** 300 - 1) * 2 ** 100)
        self.check(26, "a" * 299 + "z", 400, 25 * 26 ** 100)
        self.check(26, "a" * 299 + "z", 299, 0)
        self.check(26, "z" * 300, 0, 0)

    def test_order_is_that_of_the_fractions(self):
        marks = up_to(3, 4)
        self.assertEqual(marks, sorted(marks, key=lambda mark: fraction_of(3, mark)))
        wholes = [whole_of(3, mark, 4) for mark in marks]
        self.assertEqual(wholes, list(range(1, 3 ** 4)))


class MarkOf(unittest.TestCase):

    def check(self, letters, number, long, answer):
        with self.subTest(letters=letters, number=number, long=long):
            self.assertEqual(mark_of(letters, number, long), answer)

    def test_known_ones(self):
        self.check(10, 123, 3, "bcd")
        self.check(10, 123, 5, "aabcd")
        self.check(10, 120, 3, "bc")
        self.check(10, 102, 3, "bac")
        self.check(2, 1, 1, "b")
        self.check(26, 25, 1, "z")

    def test_one(self):
        for letters in range(2, 27):
            for long in (1, 2, 3, 300, 400):
                self.check(letters, 1, long, "a" * (long - 1) + "b")

    def test_the_greatest_number(self):
        for letters in range(2, 27):
            for long in (1, 2, 3, 300, 400):
                self.check(letters, letters ** long - 1, long, SIGNS[letters - 1] * long)

    def test_lone_powers(self):
        for letters in (2, 3, 10, 26):
            for long in (1, 2, 5, 300):
                for place in {0, 1, long // 2, long - 1} & set(range(long)):
                    self.check(letters, letters ** (long - 1 - place), long, "a" * place + "b")

    def test_all_numbers_and_back(self):
        for letters, long in ((2, 1), (2, 7), (3, 4), (5, 3), (26, 2)):
            marks = [mark_of(letters, number, long) for number in range(1, letters ** long)]
            self.assertEqual(marks, up_to(letters, long))
            wholes = [whole_of(letters, mark, long) for mark in marks]
            self.assertEqual(wholes, list(range(1, letters ** long)))

    def test_numbers_of_sixty_figures_and_back(self):
        for letters, long in ((2, 200), (3, 126), (10, 60), (26, 43), (26, 400)):
            for number in (FAR, 10 ** 59, FAR // 3):
                with self.subTest(letters=letters, number=number):
                    mark = mark_of(letters, number, long)
                    self.assertTrue(is_mark(letters, mark))
                    self.assertEqual(whole_of(letters, mark, long), number)


if __name__ == "__main__":
    unittest.main()
