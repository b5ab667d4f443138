"""How long marks grow on a shelf of one hand [3, 13, 14]."""

import unittest

from shelfmark.between import mark_between
from shelfmark.growth import first_long, halves, last_long, most_long
from shelfmark.runs import renewed, renewed_long
from shelfmark.shelves import Shelf

FAR = 10 ** 60 - 1


class Halves(unittest.TestCase):

    def test_all_letters(self):
        answers = [1, 1] + [2] * 4 + [3] * 8 + [4] * 11
        self.assertEqual([halves(letters) for letters in range(2, 27)], answers)

    def test_the_greatest(self):
        for letters in range(2, 27):
            self.assertLessEqual(2 ** halves(letters), letters)
            self.assertGreater(2 ** (halves(letters) + 1), letters)
            self.assertIs(type(halves(letters)), int)


class MostLong(unittest.TestCase):

    def test_few(self):
        self.assertEqual([most_long(2, many) for many in range(8)], [0, 1, 2, 3, 4, 5, 6, 7])
        self.assertEqual([most_long(3, many) for many in range(8)], [0, 1, 2, 3, 4, 5, 6, 7])
        self.assertEqual([most_long(4, many) for many in range(8)], [0, 1, 2, 2, 3, 3, 4, 4])
        self.assertEqual([most_long(8, many) for many in range(9)], [0, 1, 2, 2, 2, 3, 3, 3, 4])
        self.assertEqual([most_long(26, many) for many in range(11)], [0, 1, 2, 2, 2, 2, 3, 3, 3, 3, 4])

    def test_none_and_one_of_all_letters(self):
        for letters in range(2, 27):
            self.assertEqual([most_long(letters, many) for many in range(3)], [0, 1, 2])

    def test_sixty_figures(self):
        self.assertEqual(most_long(2, FAR), FAR)
        self.assertEqual(most_long(3, FAR), FAR)
        self.assertEqual(most_long(4, FAR), 5 * 10 ** 59)
        self.assertEqual(most_long(8, FAR), 1 + FAR // 3)
        self.assertEqual(most_long(26, FAR), 2 + (FAR - 2) // 4)
        self.assertEqual(most_long(26, 10 ** 59), 2 + (10 ** 59 - 2) // 4)


class Bound(unittest.TestCase):

    def test_all_rows_of_puttings_into_the_last_ones_gaps(self):
        for letters in range(2, 27):
            gaps = [(None, None)]
            for many in range(1, 10):
                made = [(low, mark_between(letters, 1, 0, low, high), high) for low, high in gaps]
                longest = max(len(mark) for low, mark, high in made)
                self.assertLessEqual(longest, most_long(letters, many), (letters, many))
                gaps = [(low, mark) for low, mark, high in made] + [(mark, high) for low, mark, high in made]

    def test_the_bound_is_reached(self):
        shelf = Shelf(2)
        for many in range(1, 60):
            shelf.put(many // 2, "x")
            self.assertEqual(shelf.longest(), most_long(2, many))

    def check(self, letters, many, place_of):
        """Put so many things, each at the place told of its number and of the last one's place."""
        shelf = Shelf(letters)
        place = 0
        for number in range(1, many + 1):
            place = place_of(number, place)
            shelf.put(place, "x")
            self.assertLessEqual(shelf.longest(), most_long(letters, number), (letters, number))

    def test_straight_behind_the_last_one(self):
        for letters in (2, 3, 4, 10, 26):
            self.check(letters, 120, lambda number, place: 0 if number == 1 else place + 1)

    def test_straight_ahead_of_the_last_one(self):
        for letters in (2, 3, 4, 10, 26):
            self.check(letters, 120, lambda number, place: place)

    def test_by_turns_ahead_and_behind_the_last_one(self):
        for letters in range(2, 27):
            self.check(letters, 120, lambda number, place: place + number % 2 if number > 1 else 0)
            self.check(letters, 120, lambda number, place: place + (number % 3 == 0))

    def test_between_the_same_two(self):
        for letters in range(2, 27):
            self.check(letters, 120, lambda number, place: min(number - 1, 1))

    def test_at_any_places(self):
        for letters in range(2, 27):
            for factor in (1, 3, 7, 31, 101):
                self.check(letters, 60, lambda number, place: (number * number * factor + place) % number)

    def test_three_hundred(self):
        for letters in (2, 26):
            self.check(letters, 300, lambda number, place: place + number % 2 if number > 1 else 0)


class Ends(unittest.TestCase):

    def test_known_ones(self):
        self.assertEqual([last_long(2, number) for number in range(1, 6)], [1, 2, 3, 4, 5])
        self.assertEqual([first_long(2, number) for number in range(1, 6)], [1, 2, 3, 4, 5])
        self.assertEqual([last_long(3, number) for number in range(1, 8)], [1, 1, 2, 2, 3, 3, 4])
        self.assertEqual([first_long(3, number) for number in range(1, 8)], [1, 2, 2, 3, 3, 4, 4])
        self.assertEqual([last_long(4, number) for number in range(1, 10)], [1, 1, 2, 2, 2, 3, 3, 3, 4])
        self.assertEqual([first_long(4, number) for number in range(1, 10)], [1, 1, 2, 2, 2, 3, 3, 3, 4])
        self.assertEqual([last_long(26, number) for number in (1, 13, 14, 38, 39)], [1, 1, 2, 2, 3])
        self.assertEqual([first_long(25, number) for number in (1, 12, 13, 36, 37)], [1, 1, 2, 2, 3])

    def test_puttings_at_the_end(self):
        for letters in range(2, 27):
            shelf = Shelf(letters)
            for number in range(1, 121):
                mark = shelf.put(number - 1, "x")
                self.assertEqual(len(mark), last_long(letters, number), (letters, number))

    def test_puttings_at_the_beginning(self):
        for letters in range(2, 27):
            shelf = Shelf(letters)
            for number in range(1, 121):
                mark = shelf.put(0, "x")
                self.assertEqual(len(mark), first_long(letters, number), (letters, number))

    def test_three_hundred_puttings(self):
        for letters in (2, 3, 4, 10, 26):
            last = Shelf(letters)
            first = Shelf(letters)
            lasts = [len(last.put(number - 1, "x")) for number in range(1, 301)]
            firsts = [len(first.put(0, "x")) for number in range(1, 301)]
            self.assertEqual(lasts, [last_long(letters, number) for number in range(1, 301)])
            self.assertEqual(firsts, [first_long(letters, number) for number in range(1, 301)])

    def test_sixty_figures(self):
        for kind in (last_long, first_long):
            self.assertEqual(kind(2, FAR), FAR)
            self.assertIs(type(kind(26, FAR)), int)
        self.assertEqual(last_long(3, FAR), 2 + (FAR - 3) // 2)
        self.assertEqual(first_long(3, FAR), 2 + (FAR - 2) // 2)
        self.assertEqual(last_long(10, FAR), 2 + (FAR - 6) // 9)
        self.assertEqual(first_long(10, FAR), 2 + (FAR - 6) // 9)
        self.assertEqual(last_long(26, FAR), 2 + (FAR - 14) // 25)
        self.assertEqual(first_long(26, 10 ** 59), 2 + (10 ** 59 - 14) // 25)

    def test_renewed_marks(self):
        for letters in (2, 3, 26):
            shelf = Shelf(letters)
            self.assertEqual(renewed_long(letters, shelf.longest()), 0)
            for number in range(1, 80):
                shelf.put(number - 1, "x")
                shelf.renew()
                self.assertEqual(shelf.longest(), renewed_long(letters, number))
                self.assertEqual(shelf.marks(), renewed(letters, number))


if __name__ == "__main__":
    unittest.main()
