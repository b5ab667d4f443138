"""Runs of marks put at once, and renewed marks [3, 9, 10]."""

import unittest

from shelfmark.between import least_long, mark_between
from shelfmark.errors import NoRoom
from shelfmark.letters import is_mark, mark_of
from shelfmark.rooms import room_at
from shelfmark.runs import renewed, renewed_long, run_between
from tests.written_out import all_hands, between, is_own, lies_between, own_of, pairs, up_to, wrong_pairs

# Letters, the longest marks handed in, and up to which length all marks are written out.
SMALL_SHELVES = ((2, 3, 6), (3, 2, 4), (4, 1, 3), (5, 1, 3))


def spaced(marks, many):
    """So many of the marks, by the rule of runs."""
    return [marks[(k + 1) * (len(marks) + 1) // (many + 1) - 1] for k in range(many)]


def rising(marks):
    return all(one < other for one, other in zip(marks, marks[1:]))


class RunBetween(unittest.TestCase):

    def check(self, letters, hands, hand, low, high, rooms, many):
        with self.subTest(letters=letters, hands=hands, hand=hand, low=low, high=high, many=many):
            room = [marks for marks in rooms if len(marks) >= many][0]
            run = run_between(letters, hands, hand, low, high, many)
            self.assertIs(type(run), list)
            self.assertEqual(run, spaced(room, many))
            self.assertEqual(len(run), many)
            self.assertTrue(rising(run))

    def test_against_all_marks_written_out(self):
        for letters, longest, lengths in SMALL_SHELVES:
            for hands, hand in all_hands(letters):
                owns = [own_of(letters, hands, hand, long) for long in range(1, lengths + 1)]
                for low, high in pairs(up_to(letters, longest)):
                    rooms = [between(own, low, high) for own in owns]
                    for many in range(1, 1 + max(len(room) for room in rooms)):
                        self.check(letters, hands, hand, low, high, rooms, many)

    def test_known_ones(self):
        self.assertEqual(run_between(10, 1, 0, None, None, 9), list("bcdefghij"))
        self.assertEqual(run_between(10, 1, 0, None, None, 4), list("cegi"))
        self.assertEqual(run_between(10, 3, 1, None, None, 3), list("cfi"))
        self.assertEqual(run_between(10, 3, 1, None, None, 2), list("cf"))
        self.assertEqual(run_between(2, 1, 0, "b", None, 1), ["bb"])
        self.assertEqual(run_between(2, 1, 0, "b", None, 2), ["bab", "bbb"])
        self.assertEqual(run_between(4, 1, 0, "b", "c", 3), ["bb", "bc", "bd"])
        self.assertEqual(run_between(4, 1, 0, "b", "c", 2), ["bb", "bc"])

    def test_one_alone_at_an_end_is_the_middle_one(self):
        self.assertEqual(run_between(26, 1, 0, "n", None, 1), ["t"])
        self.assertEqual(run_between(26, 1, 0, None, "n", 1), ["g"])

    def test_where_room_shrinks_with_the_length(self):
        self.assertEqual(run_between(3, 2, 0, "acc", "bab", 1), ["b"])
        self.assertEqual(len(run_between(3, 2, 0, "acc", "bab", 2)[0]), 4)

    def test_one_between_two_is_the_mark_between(self):
        for letters, longest in ((2, 4), (3, 3), (4, 2), (26, 1)):
            marks = up_to(letters, longest)
            asked = [(low, high) for low, high in pairs(marks) if (low is None) == (high is None)]
            for hands, hand in all_hands(letters)[:6]:
                for low, high in asked:
                    with self.subTest(letters=letters, hands=hands, hand=hand, low=low, high=high):
                        mark = mark_between(letters, hands, hand, low, high)
                        self.assertEqual(run_between(letters, hands, hand, low, high, 1), [mark])

    def test_low_not_ahead_of_high(self):
        for letters, longest in ((2, 3), (3, 2), (4, 2)):
            for hands, hand in all_hands(letters):
                for low, high in wrong_pairs(up_to(letters, longest)):
                    for many in (1, 2, 300):
                        with self.subTest(low=low, high=high, many=many), self.assertRaises(NoRoom):
                            run_between(letters, hands, hand, low, high, many)

    def test_long_marks_not_ahead(self):
        mark = "ab" * 150
        for low, high in ((mark, mark), (mark, mark[:-2]), (mark[:-1] + "c", mark)):
            with self.assertRaises(NoRoom):
                run_between(3, 2, 1, low, high, 7)

    def test_a_list_of_the_askers_own(self):
        run = run_between(4, 1, 0, "b", "c", 3)
        run.clear()
        self.assertEqual(run_between(4, 1, 0, "b", "c", 3), ["bb", "bc", "bd"])


class LongRuns(unittest.TestCase):

    def check(self, letters, hands, hand, low, high, many):
        with self.subTest(letters=letters, hands=hands, hand=hand, low=low, high=high, many=many):
            run = run_between(letters, hands, hand, low, high, many)
            long = least_long(letters, hands, hand, low, high, many)
            self.assertEqual(len(run), many)
            self.assertTrue(rising(run))
            self.assertEqual({len(mark) for mark in run}, {long})
            for mark in run:
                self.assertTrue(is_mark(letters, mark))
                self.assertTrue(is_own(hands, hand, mark))
                self.assertTrue(lies_between(low, mark, high))
            lesser = [room_at(letters, hands, hand, low, high, size) for size in range(1, long)]
            self.assertLess(max(lesser, default=0), many)

    def test_three_hundred_marks(self):
        for letters, hands, hand in ((2, 1, 0), (3, 2, 1), (10, 4, 3), (26, 1, 0), (26, 25, 24)):
            for low, high in ((None, None), ("b", None), (None, "b"), ("ab", "abb"), ("ab", "b")):
                for many in (1, 2, 3, 299, 300):
                    self.check(letters, hands, hand, low, high, many)

    def test_three_hundred_marks_between_long_ones(self):
        for letters, hands, hand in ((2, 1, 0), (26, 25, 0)):
            for low, high in (("b" * 300, None), (None, "a" * 299 + "b"), ("b" * 299, "b" * 300)):
                self.check(letters, hands, hand, low, high, 300)

    def test_three_hundred_of_sixteen_letters_all_told(self):
        # Room 15 * 16 ** 2 = 3840 at the length 3: the numbers are (k + 1) * 3841 // 301 - 1.
        run = run_between(16, 1, 0, None, None, 300)
        numbers = [(k + 1) * 3841 // 301 - 1 for k in range(300)]
        self.assertEqual(run, [mark_of(16, number // 15 * 16 + number % 15 + 1, 3) for number in numbers])

    def test_what_was_told_is_handed_in_again(self):
        low = None
        high = None
        for step in range(40):
            run = run_between(2, 1, 0, low, high, 300)
            self.assertTrue(all(lies_between(low, mark, high) for mark in run))
            low, high = run[step], run[step + 1]
        self.assertGreater(len(low), 300)


class Renewed(unittest.TestCase):

    def test_known_lengths(self):
        self.assertEqual([renewed_long(2, many) for many in range(9)], [0, 1, 2, 2, 3, 3, 3, 3, 4])
        self.assertEqual([renewed_long(26, many) for many in (0, 1, 24, 25, 26, 300)], [0, 1, 1, 1, 2, 2])
        self.assertEqual([renewed_long(2, many) for many in (254, 255, 256, 300)], [8, 8, 9, 9])

    def test_lengths_next_to_the_powers(self):
        for letters in range(2, 27):
            for long in range(1, 5):
                whole = letters ** long
                with self.subTest(letters=letters, long=long):
                    self.assertEqual(renewed_long(letters, whole - 1), long)
                    self.assertEqual(renewed_long(letters, whole), long + 1)
                    if letters > 2 or long > 1:
                        self.assertEqual(renewed_long(letters, whole - 2), long)
                    self.assertIs(type(renewed_long(letters, whole)), int)

    def test_none(self):
        for letters in range(2, 27):
            self.assertEqual(renewed_long(letters, 0), 0)
            self.assertEqual(renewed(letters, 0), [])

    def test_known_ones(self):
        self.assertEqual(renewed(2, 1), ["b"])
        self.assertEqual(renewed(2, 2), ["ab", "b"])
        self.assertEqual(renewed(2, 3), ["ab", "b", "bb"])
        self.assertEqual(renewed(2, 4), ["aab", "abb", "b", "bb"])
        self.assertEqual(renewed(3, 2), ["b", "c"])
        self.assertEqual(renewed(26, 1), ["n"])
        self.assertEqual(renewed(26, 25), list("bcdefghijklmnopqrstuvwxyz"))
        self.assertEqual(renewed(26, 26)[:3], ["az", "by", "cx"])

    def test_all_marks_of_a_length(self):
        for letters, long in ((2, 8), (3, 5), (4, 4), (5, 3), (17, 2)):
            self.assertEqual(renewed(letters, letters ** long - 1), up_to(letters, long))

    def test_the_rule(self):
        for letters in (2, 3, 10, 26):
            for many in list(range(1, 40)) + [62, 63, 64, 254, 255, 256, 298, 299, 300]:
                with self.subTest(letters=letters, many=many):
                    long = renewed_long(letters, many)
                    whole = letters ** long
                    marks = [mark_of(letters, (k + 1) * whole // (many + 1), long) for k in range(many)]
                    self.assertEqual(renewed(letters, many), marks)

    def test_rising_and_no_longer_than_must_be(self):
        for letters in range(2, 27):
            for many in (1, 2, letters - 2, letters - 1, letters, letters ** 2 - 2, letters ** 2 - 1, 300):
                with self.subTest(letters=letters, many=many):
                    marks = renewed(letters, many)
                    self.assertEqual(len(marks), many)
                    self.assertTrue(rising(marks))
                    self.assertTrue(all(is_mark(letters, mark) for mark in marks))
                    greatest = max((len(mark) for mark in marks), default=0)
                    self.assertEqual(greatest, renewed_long(letters, many))
                    if many > 0:
                        self.assertLess(letters ** (greatest - 1) - 1, many)

    def test_a_list_of_the_askers_own(self):
        marks = renewed(2, 3)
        marks.append("bbb")
        self.assertEqual(renewed(2, 3), ["ab", "b", "bb"])


if __name__ == "__main__":
    unittest.main()
