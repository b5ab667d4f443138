"""The refusals' classes [2]."""

import unittest

from shelfmark.errors import (NoHand, NoLetters, NoLine, NoPlace, NoRoom, NoShelf, NoState,
                              NoThing, ShelfError)

OF_TEXTS = [NoLetters, NoRoom, NoThing, NoPlace, NoHand, NoShelf, NoLine]
ALL = OF_TEXTS + [NoState]


def made(kind):
    return kind(3) if kind == NoState else kind("some words")


class Refusals(unittest.TestCase):

    def test_the_base_is_a_value_error(self):
        self.assertEqual(ShelfError.__bases__, (ValueError,))

    def test_each_is_taken_by_the_base_and_by_value_error(self):
        for kind in ALL:
            for base in (ShelfError, ValueError):
                with self.subTest(kind=kind, base=base), self.assertRaises(base):
                    raise made(kind)

    def test_none_is_taken_by_another_one(self):
        for kind in ALL:
            for other in ALL:
                with self.subTest(kind=kind, other=other):
                    self.assertEqual(isinstance(made(kind), other), kind == other)

    def test_the_base_stands_under_none(self):
        for kind in ALL:
            self.assertNotIsInstance(ShelfError("some words"), kind)

    def test_each_is_made_of_whatever_text(self):
        for kind in OF_TEXTS:
            for words in ("", "a", "two words", "line\nend", "{row}"):
                with self.subTest(kind=kind, words=words):
                    self.assertIsInstance(kind(words), kind)

    def test_no_state_has_the_row_that_it_was_made_of(self):
        for row in (0, 1, 7, 1000, 10 ** 60 - 1):
            with self.subTest(row=row):
                refusal = NoState(row)
                self.assertEqual(refusal.row, row)
                self.assertIs(type(refusal.row), int)

    def test_rows_are_each_objects_own(self):
        one = NoState(1)
        other = NoState(2)
        self.assertEqual((one.row, other.row), (1, 2))


if __name__ == "__main__":
    unittest.main()
