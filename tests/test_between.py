"""The mark between two others [3, 8, 15]."""

import unittest

from shelfmark.between import least_long, mark_between
from shelfmark.errors import NoRoom
from shelfmark.letters import is_mark
from tests.written_out import SIGNS, all_hands, between, is_own, lies_between, own_of, pairs, told, up_to, wrong_pairs

# Letters, and the longest marks handed in.
SMALL_SHELVES = ((2, 4), (3, 3), (4, 2), (5, 1))


def size_of(mark):
    return 0 if mark is None else len(mark)


class MarkBetween(unittest.TestCase):

    def test_against_all_marks_written_out(self):
        for letters, longest in SMALL_SHELVES:
            for hands, hand in all_hands(letters):
                owns = [own_of(letters, hands, hand, long) for long in range(1, longest + 2)]
                for low, high in pairs(up_to(letters, longest)):
                    with self.subTest(letters=letters, hands=hands, hand=hand, low=low, high=high):
                        rooms = [between(own, low, high) for own in owns]
                        shortest = [room for room in rooms if room][0]
                        answer = shortest[told(low, high, len(shortest))]
                        self.assertEqual(mark_between(letters, hands, hand, low, high), answer)

    def test_known_ones(self):
        self.assertEqual(mark_between(2, 1, 0, None, None), "b")
        self.assertEqual(mark_between(2, 1, 0, "b", None), "bb")
        self.assertEqual(mark_between(2, 1, 0, None, "b"), "ab")
        self.assertEqual(mark_between(2, 1, 0, "b", "bb"), "bab")
        self.assertEqual(mark_between(26, 1, 0, None, None), "n")
        self.assertEqual(mark_between(26, 1, 0, "n", None), "o")
        self.assertEqual(mark_between(26, 1, 0, None, "n"), "m")
        self.assertEqual(mark_between(26, 1, 0, "b", "z"), "n")
        self.assertEqual(mark_between(26, 1, 0, "b", "y"), "m")

    def test_behind_low_alone_the_first(self):
        self.assertEqual(mark_between(10, 1, 0, "b", None), "c")
        self.assertEqual(mark_between(10, 3, 0, "b", None), "e")
        self.assertEqual(mark_between(10, 1, 0, "j", None), "jb")

    def test_ahead_of_high_alone_the_last(self):
        self.assertEqual(mark_between(10, 1, 0, None, "j"), "i")
        self.assertEqual(mark_between(10, 3, 0, None, "j"), "h")
        self.assertEqual(mark_between(10, 1, 0, None, "b"), "aj")

    def test_where_room_shrinks_with_the_length(self):
        self.assertEqual(mark_between(3, 2, 0, "acc", "bab"), "b")

    def test_low_not_ahead_of_high(self):
        for letters, longest in ((2, 3), (3, 2), (4, 2)):
            for hands, hand in all_hands(letters):
                for low, high in wrong_pairs(up_to(letters, longest)):
                    with self.subTest(letters=letters, low=low, high=high):
                        with self.assertRaises(NoRoom):
                            mark_between(letters, hands, hand, low, high)
                        with self.assertRaises(NoRoom):
                            least_long(letters, hands, hand, low, high, 1)

    def test_at_most_one_letter_more(self):
        for letters, longest in SMALL_SHELVES + ((26, 1),):
            for hands, hand in all_hands(letters):
                for low, high in pairs(up_to(letters, longest)):
                    with self.subTest(letters=letters, hands=hands, hand=hand, low=low, high=high):
                        mark = mark_between(letters, hands, hand, low, high)
                        self.assertLessEqual(len(mark), 1 + max(size_of(low), size_of(high)))


class LeastLong(unittest.TestCase):

    def test_against_all_marks_written_out(self):
        for letters, longest, lengths in ((2, 3, 6), (3, 2, 4), (4, 1, 3)):
            for hands, hand in all_hands(letters):
                owns = [own_of(letters, hands, hand, long) for long in range(1, lengths + 1)]
                for low, high in pairs(up_to(letters, longest)):
                    rooms = [len(between(own, low, high)) for own in owns]
                    for many in range(1, max(rooms) + 1):
                        with self.subTest(letters=letters, hands=hands, hand=hand, low=low, high=high, many=many):
                            answer = 1 + [room >= many for room in rooms].index(True)
                            long = least_long(letters, hands, hand, low, high, many)
                            self.assertEqual(long, answer)
                            self.assertIs(type(long), int)

    def test_where_room_shrinks_with_the_length(self):
        self.assertEqual(least_long(3, 2, 0, "acc", "bab", 1), 1)
        self.assertEqual(least_long(3, 2, 0, "acc", "bab", 2), 4)

    def test_many_of_sixty_figures(self):
        many = 10 ** 60 - 1
        self.assertEqual(least_long(2, 1, 0, None, None, many), 201)
        self.assertEqual(least_long(2, 1, 0, None, None, 2 ** 199), 200)
        self.assertEqual(least_long(2, 1, 0, None, None, 2 ** 199 + 1), 201)
        self.assertEqual(least_long(10, 9, 3, None, None, many), 61)
        self.assertEqual(least_long(10, 9, 3, "b" * 300, "b" * 300 + "b", many), 362)

    def test_low_not_ahead_of_high_whatever_many(self):
        for many in (1, 2, 300, 10 ** 60 - 1):
            for low, high in (("b", "b"), ("bb", "b"), ("c", "b")):
                with self.subTest(many=many, low=low, high=high), self.assertRaises(NoRoom):
                    least_long(3, 2, 1, low, high, many)


class LongMarks(unittest.TestCase):

    def test_ahead_and_behind(self):
        self.assertEqual(mark_between(2, 1, 0, "b" * 300, None), "b" * 301)
        self.assertEqual(mark_between(2, 1, 0, None, "a" * 299 + "b"), "a" * 300 + "b")
        self.assertEqual(mark_between(3, 1, 0, "c" * 300, None), "c" * 300 + "b")
        self.assertEqual(mark_between(3, 1, 0, None, "a" * 299 + "b"), "a" * 300 + "c")

    def test_next_to_one_another(self):
        self.assertEqual(mark_between(3, 1, 0, "b" * 300, "b" * 299 + "c"), "b" * 301)
        self.assertEqual(mark_between(3, 2, 1, "b" * 300, "b" * 299 + "c"), "b" * 300 + "c")
        self.assertEqual(mark_between(2, 1, 0, "b" * 299, "b" * 300), "b" * 299 + "ab")

    def test_short_ones_between_long_ones(self):
        self.assertEqual(mark_between(3, 1, 0, "b" + "a" * 298 + "b", "c"), "bb")
        self.assertEqual(mark_between(3, 1, 0, "a" * 299 + "b", "c" * 300), "b")
        self.assertEqual(mark_between(2, 1, 0, "a" + "b" * 299, "b" + "a" * 298 + "b"), "b")
        self.assertEqual(mark_between(2, 1, 0, "a" + "b" * 299, "b"), "a" + "b" * 300)

    def test_a_row_of_marks_handed_in_again(self):
        for letters, hands in ((2, 1), (3, 2), (26, 1), (26, 25)):
            low = None
            high = None
            for step in range(400):
                hand = step % hands
                mark = mark_between(letters, hands, hand, low, high)
                self.assertTrue(is_mark(letters, mark))
                self.assertTrue(is_own(hands, hand, mark))
                self.assertTrue(lies_between(low, mark, high))
                self.assertLessEqual(len(mark), 1 + max(size_of(low), size_of(high)))
                low, high = (mark, high) if step % 3 else (low, mark)

    def test_all_hands_find_room_there(self):
        low = SIGNS[25] * 299 + "b"
        high = SIGNS[25] * 299 + "c"
        for hand in range(25):
            self.assertEqual(mark_between(26, 25, hand, low, high), low + SIGNS[1 + hand])


if __name__ == "__main__":
    unittest.main()
