"""A hand's ends, and the room between two marks at a length [6, 7]."""

import unittest

from shelfmark.errors import NoRoom
from shelfmark.rooms import ends_of, nth_mark, room_at
from tests.written_out import SIGNS, all_hands, between, own_of, pairs, up_to, wrong_pairs

# Letters, the longest marks handed in, and the greatest length asked for.
SMALL_SHELVES = ((2, 4, 6), (3, 2, 4), (4, 2, 3), (5, 1, 3))


class EndsOf(unittest.TestCase):

    def test_known_ones(self):
        self.assertEqual(ends_of(2, 1, 0), "b")
        self.assertEqual(ends_of(4, 1, 0), "bcd")
        self.assertEqual([ends_of(6, 2, hand) for hand in range(2)], ["bdf", "ce"])
        self.assertEqual([ends_of(6, 3, hand) for hand in range(3)], ["be", "cf", "d"])
        self.assertEqual(ends_of(26, 10, 4), "fpz")

    def test_one_hand_has_all_but_a(self):
        for letters in range(2, 27):
            self.assertEqual(ends_of(letters, 1, 0), SIGNS[1:letters])

    def test_one_letter_each(self):
        for letters in range(2, 27):
            ends = [ends_of(letters, letters - 1, hand) for hand in range(letters - 1)]
            self.assertEqual(ends, list(SIGNS[1:letters]))

    def test_each_letter_is_one_hands_alone(self):
        for letters in range(2, 27):
            for hands in range(1, letters):
                ends = [ends_of(letters, hands, hand) for hand in range(hands)]
                self.assertEqual(sorted("".join(ends)), list(SIGNS[1:letters]))

    def test_rising_and_none_without_an_end(self):
        for letters in range(2, 27):
            for hands, hand in all_hands(letters):
                ends = ends_of(letters, hands, hand)
                self.assertNotEqual(ends, "")
                self.assertEqual(list(ends), sorted(set(ends)))

    def test_the_rest_is_the_hands_number(self):
        for letters in range(2, 27):
            for hands, hand in all_hands(letters):
                rests = {(SIGNS.index(end) - 1) % hands for end in ends_of(letters, hands, hand)}
                self.assertEqual(rests, {hand})


class Rooms(unittest.TestCase):

    def check(self, letters, hands, hand, low, high, long, marks):
        with self.subTest(letters=letters, hands=hands, hand=hand, low=low, high=high, long=long):
            room = room_at(letters, hands, hand, low, high, long)
            self.assertEqual(room, len(marks))
            self.assertIs(type(room), int)
            told = [nth_mark(letters, hands, hand, low, high, long, number) for number in range(len(marks))]
            self.assertEqual(told, marks)

    def test_against_all_texts_of_a_length(self):
        for letters, longest, lengths in SMALL_SHELVES:
            for hands, hand in all_hands(letters):
                for long in range(1, lengths + 1):
                    own = own_of(letters, hands, hand, long)
                    for low, high in pairs(up_to(letters, longest)):
                        self.check(letters, hands, hand, low, high, long, between(own, low, high))

    def test_unlike(self):
        self.check(4, 1, 0, "b", "d", 1, ["c"])
        self.check(4, 1, 0, "bd", "db", 1, ["c", "d"])
        self.check(4, 2, 0, "bd", "db", 2, ["cb", "cd"])
        self.check(4, 2, 1, "bd", "db", 2, ["cc"])
        self.check(4, 3, 0, "bd", "db", 2, ["cb"])

    def test_alike_at_the_beginning(self):
        self.check(4, 1, 0, "bbb", "bbd", 1, [])
        self.check(4, 1, 0, "bbb", "bbd", 2, [])
        self.check(4, 1, 0, "bbb", "bbd", 3, ["bbc"])
        self.check(4, 2, 0, "bbb", "bbd", 3, [])
        self.check(4, 2, 1, "bbb", "bbd", 3, ["bbc"])

    def test_one_a_beginning_of_the_other(self):
        self.check(3, 1, 0, "b", "bb", 1, [])
        self.check(3, 1, 0, "b", "bb", 2, [])
        self.check(3, 1, 0, "b", "bb", 3, ["bab", "bac"])
        self.check(3, 2, 1, "b", "bb", 3, ["bac"])
        self.check(3, 1, 0, "b", "bacab", 3, ["bab", "bac"])

    def test_a_beginning_of_high_comes_ahead_of_it(self):
        self.check(3, 1, 0, "acc", "bab", 1, ["b"])
        self.check(3, 2, 0, "acc", "bab", 2, [])
        self.check(3, 1, 0, None, "cab", 1, ["b", "c"])

    def test_none(self):
        self.check(3, 1, 0, None, None, 1, ["b", "c"])
        self.check(3, 1, 0, "b", None, 1, ["c"])
        self.check(3, 1, 0, "c", None, 1, [])
        self.check(3, 1, 0, None, "b", 1, [])
        self.check(3, 1, 0, None, "b", 2, ["ab", "ac"])
        self.check(3, 2, 1, None, None, 2, ["ac", "bc", "cc"])

    def test_low_not_ahead_of_high(self):
        for letters, longest in ((2, 3), (3, 2), (4, 2)):
            for hands, hand in all_hands(letters):
                for low, high in wrong_pairs(up_to(letters, longest)):
                    with self.subTest(letters=letters, low=low, high=high):
                        with self.assertRaises(NoRoom):
                            room_at(letters, hands, hand, low, high, 2)
                        with self.assertRaises(NoRoom):
                            nth_mark(letters, hands, hand, low, high, 2, 0)

    def test_long_marks_not_ahead(self):
        mark = "ab" * 150
        for low, high in ((mark, mark), (mark, mark[:-2]), (mark[:-1] + "c", mark)):
            for long in (1, 300, 400):
                with self.assertRaises(NoRoom):
                    room_at(3, 2, 1, low, high, long)
                with self.assertRaises(NoRoom):
                    nth_mark(3, 2, 1, low, high, long, 0)


class LongRooms(unittest.TestCase):

    def test_all_of_four_hundred_letters(self):
        self.assertEqual(room_at(2, 1, 0, None, None, 400), 2 ** 399)
        self.assertEqual(room_at(26, 25, 7, None, None, 400), 26 ** 399)
        self.assertEqual(room_at(26, 1, 0, None, None, 400), 25 * 26 ** 399)
        self.assertEqual(nth_mark(2, 1, 0, None, None, 400, 0), "a" * 399 + "b")
        self.assertEqual(nth_mark(2, 1, 0, None, None, 400, 2 ** 399 - 1), "b" * 400)
        self.assertEqual(nth_mark(26, 5, 4, None, None, 400, 5 * 26 ** 399 - 1), "z" * 400)

    def test_marks_of_three_hundred_letters(self):
        low = "b" * 300
        high = "b" * 299 + "c"
        self.assertEqual(room_at(3, 1, 0, low, high, 300), 0)
        self.assertEqual(room_at(3, 1, 0, low, high, 301), 2)
        self.assertEqual(room_at(3, 1, 0, low, high, 400), 2 * 3 ** 99)
        self.assertEqual(nth_mark(3, 1, 0, low, high, 301, 0), low + "b")
        self.assertEqual(nth_mark(3, 1, 0, low, high, 301, 1), low + "c")
        self.assertEqual(nth_mark(3, 1, 0, low, high, 400, 2 * 3 ** 99 - 1), low + "c" * 100)

    def test_numbers_of_sixty_figures(self):
        number = 10 ** 60 - 1
        mark = nth_mark(10, 9, 0, None, None, 61, number)
        self.assertEqual(mark, "j" * 60 + "b")


if __name__ == "__main__":
    unittest.main()
