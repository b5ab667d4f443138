"""A shelf that one hand alone marks [2, 3, 11, 12]."""

import unittest

from shelfmark.between import mark_between
from shelfmark.errors import NoLetters, NoPlace, NoThing
from shelfmark.letters import is_mark
from shelfmark.runs import renewed, renewed_long, run_between
from shelfmark.shelves import Shelf
from tests.inputs import BAD_SIGNS, BAD_THINGS, FAR, FARTHER, GOOD_SIGNS


def shown(shelf):
    return (shelf.marks(), shelf.things(), shelf.longest())


def filled(letters, many):
    shelf = Shelf(letters)
    if many > 0:
        shelf.put_row(0, [f"t{number}" for number in range(many)])
    return shelf


class ShelfTest(unittest.TestCase):

    def refused(self, kind, shelf, call):
        """The call is refused, and behind that the shelf is as it was."""
        before = shown(shelf)
        with self.assertRaises(kind):
            call()
        self.assertEqual(shown(shelf), before)

    def sound(self, shelf, letters):
        marks, things, longest = shown(shelf)
        self.assertEqual(len(marks), len(things))
        self.assertEqual(marks, sorted(set(marks)))
        self.assertTrue(all(is_mark(letters, mark) for mark in marks))
        self.assertEqual(longest, max((len(mark) for mark in marks), default=0))
        self.assertIs(type(longest), int)


class Letters(ShelfTest):

    def test_a_new_shelf_has_nothing(self):
        for letters in range(2, 27):
            shelf = Shelf(letters)
            self.assertEqual(shown(shelf), ([], [], 0))
            self.assertIs(type(shelf.longest()), int)

    def test_letters_that_there_are_not(self):
        for letters in (1, 27, 28, 0, -1, -2, -26, FAR, -FAR, FARTHER, -FARTHER):
            with self.assertRaises(NoLetters):
                Shelf(letters)

    def test_shelves_stand_apart(self):
        one = Shelf(26)
        other = Shelf(26)
        one.put(0, "x")
        self.assertEqual(shown(other), ([], [], 0))


class Puttings(ShelfTest):

    def test_known_ones(self):
        shelf = Shelf(26)
        self.assertEqual(shelf.put(0, "mid"), "n")
        self.assertEqual(shelf.put(1, "last"), "o")
        self.assertEqual(shelf.put(0, "first"), "m")
        self.assertEqual(shelf.put(2, "between"), "nn")
        self.assertEqual(shelf.things(), ["first", "mid", "between", "last"])
        self.assertEqual(shelf.marks(), ["m", "n", "nn", "o"])
        self.assertEqual(shelf.longest(), 2)

    def test_each_mark_is_the_one_between_its_neighbours(self):
        for letters in (2, 3, 5, 26):
            shelf = Shelf(letters)
            marks = []
            things = []
            for number in range(80):
                place = number * number * 7 % (number + 1)
                low = marks[place - 1] if place > 0 else None
                high = marks[place] if place < number else None
                mark = shelf.put(place, f"t{number}")
                self.assertEqual(mark, mark_between(letters, 1, 0, low, high))
                marks.insert(place, mark)
                things.insert(place, f"t{number}")
                self.assertEqual((shelf.marks(), shelf.things()), (marks, things))
            self.sound(shelf, letters)

    def test_alike_things(self):
        shelf = Shelf(3)
        for place in (0, 0, 1, 3):
            shelf.put(place, "x")
        shelf.put_row(2, ["x", "x"])
        self.assertEqual(shelf.things(), ["x"] * 6)
        self.sound(shelf, 3)

    def test_all_that_a_thing_may_be(self):
        shelf = Shelf(26)
        for thing in list(GOOD_SIGNS) + ["x" * 12, "0" * 12, "0", "00", "taken", "renewal", "a1b2c3d4e5f6"]:
            shelf.put(0, thing)
            self.assertEqual(shelf.things()[0], thing)

    def test_always_room(self):
        for letters in (2, 3, 26):
            shelf = Shelf(letters)
            for number in range(300):
                shelf.put(number // 2, "x")
            self.sound(shelf, letters)

    def test_many_more_puttings_than_things(self):
        shelf = Shelf(2)
        for number in range(500):
            shelf.put(len(shelf.things()) // 2, f"t{number}")
            if number % 5 > 0:
                shelf.take(number % 2)
        self.sound(shelf, 2)
        self.assertEqual(len(shelf.things()), 100)


class Rows(ShelfTest):

    def test_known_ones(self):
        shelf = Shelf(10)
        self.assertEqual(shelf.put_row(0, ["a", "b", "c", "d"]), ["c", "e", "g", "i"])
        self.assertEqual(shelf.put_row(4, ["y", "z"]), ["ig", "jd"])
        self.assertEqual(shelf.put_row(1, ["p"]), ["d"])
        self.assertEqual(shelf.things(), ["a", "p", "b", "c", "d", "y", "z"])
        self.assertEqual(shelf.marks(), ["c", "d", "e", "g", "i", "ig", "jd"])

    def test_a_row_of_one_at_an_end_is_a_run_of_one(self):
        shelf = Shelf(26)
        self.assertEqual(shelf.put_row(0, ["x"]), ["n"])
        self.assertEqual(shelf.put_row(1, ["y"]), ["t"])
        self.assertEqual(shelf.put_row(0, ["w"]), ["g"])

    def test_each_row_has_the_run_between_its_neighbours(self):
        for letters in (2, 3, 26):
            shelf = Shelf(letters)
            marks = []
            things = []
            for number in range(20):
                place = number * number * 5 % (len(marks) + 1)
                row = [f"t{number}x{part}" for part in range(1 + number % 7)]
                low = marks[place - 1] if place > 0 else None
                high = marks[place] if place < len(marks) else None
                run = shelf.put_row(place, row)
                self.assertEqual(run, run_between(letters, 1, 0, low, high, len(row)))
                marks[place:place] = run
                things[place:place] = row
                self.assertEqual((shelf.marks(), shelf.things()), (marks, things))
            self.sound(shelf, letters)

    def test_all_of_one_length(self):
        for letters in (2, 3, 10, 26):
            shelf = filled(letters, 100)
            run = shelf.put_row(50, ["x"] * 200)
            self.assertEqual(len({len(mark) for mark in run}), 1)
            self.assertEqual(shelf.marks()[50:250], run)
            self.sound(shelf, letters)


class Takings(ShelfTest):

    def test_the_thing_is_given_back(self):
        shelf = Shelf(26)
        shelf.put_row(0, ["a", "b", "c", "d"])
        marks = shelf.marks()
        self.assertEqual(shelf.take(1), "b")
        self.assertEqual((shelf.things(), shelf.marks()), (["a", "c", "d"], [marks[0]] + marks[2:]))
        self.assertEqual(shelf.take(2), "d")
        self.assertEqual(shelf.take(0), "a")
        self.assertEqual((shelf.things(), shelf.marks()), (["c"], [marks[2]]))
        self.assertEqual(shelf.take(0), "c")
        self.assertEqual(shown(shelf), ([], [], 0))

    def test_the_longest_may_be_taken(self):
        shelf = Shelf(2)
        for number in range(5):
            shelf.put(number, "x")
        self.assertEqual(shelf.longest(), 5)
        shelf.take(4)
        self.assertEqual(shelf.longest(), 4)

    def test_room_is_there_again(self):
        shelf = Shelf(26)
        self.assertEqual(shelf.put(0, "x"), "n")
        shelf.take(0)
        self.assertEqual(shelf.put(0, "y"), "n")


class Renewing(ShelfTest):

    def test_none(self):
        shelf = Shelf(2)
        self.assertEqual(shelf.renew(), [])
        self.assertEqual(shown(shelf), ([], [], 0))

    def test_the_new_marks_are_told_and_things_stay(self):
        for letters in (2, 3, 26):
            for many in (1, 2, 3, 25, 26, 63, 64, 300):
                with self.subTest(letters=letters, many=many):
                    shelf = Shelf(letters)
                    for number in range(many):
                        shelf.put(number // 2, f"t{number}")
                    things = shelf.things()
                    self.assertEqual(shelf.renew(), renewed(letters, many))
                    self.assertEqual(shelf.marks(), renewed(letters, many))
                    self.assertEqual(shelf.things(), things)
                    self.assertEqual(shelf.longest(), renewed_long(letters, many))

    def test_puttings_go_on_from_there(self):
        shelf = Shelf(26)
        for number in range(5):
            shelf.put(number, "x")
        marks = shelf.renew()
        self.assertEqual(shelf.put(2, "y"), mark_between(26, 1, 0, marks[1], marks[2]))
        self.assertEqual(shelf.put(6, "z"), mark_between(26, 1, 0, marks[4], None))
        self.sound(shelf, 26)


class NoThings(ShelfTest):

    def test_what_is_no_thing(self):
        for many in (0, 1, 5):
            shelf = filled(10, many)
            for thing in BAD_THINGS:
                for place in (0, many):
                    self.refused(NoThing, shelf, lambda: shelf.put(place, thing))
                    self.refused(NoThing, shelf, lambda: shelf.put_row(place, [thing]))

    def test_other_signs_at_any_place(self):
        shelf = filled(3, 2)
        for sign in BAD_SIGNS:
            for size in (1, 2, 7, 12):
                for spot in range(size):
                    thing = "x" * spot + sign + "x" * (size - 1 - spot)
                    self.refused(NoThing, shelf, lambda: shelf.put(1, thing))

    def test_a_row_without_things(self):
        for many in (0, 1, 300):
            shelf = filled(10, many)
            self.refused(NoThing, shelf, lambda: shelf.put_row(0, []))

    def test_a_row_with_one_that_is_none(self):
        shelf = filled(10, 3)
        for thing in BAD_THINGS:
            for size in (1, 2, 5, 100):
                for spot in {0, 1, size // 2, size - 1} & set(range(size)):
                    row = ["x"] * size
                    row[spot] = thing
                    self.refused(NoThing, shelf, lambda: shelf.put_row(1, row))

    def test_more_than_three_hundred(self):
        shelf = filled(26, 300)
        self.assertEqual(len(shelf.things()), 300)
        for place in (0, 150, 300):
            self.refused(NoThing, shelf, lambda: shelf.put(place, "x"))
            self.refused(NoThing, shelf, lambda: shelf.put_row(place, ["x"]))
        shelf.take(7)
        self.refused(NoThing, shelf, lambda: shelf.put_row(0, ["x", "y"]))
        shelf.put(299, "x")
        self.refused(NoThing, shelf, lambda: shelf.put(0, "x"))

    def test_three_hundred_by_single_things(self):
        shelf = Shelf(26)
        for number in range(300):
            shelf.put(number, "x")
        self.refused(NoThing, shelf, lambda: shelf.put(300, "x"))

    def test_three_hundred_by_a_row(self):
        shelf = Shelf(2)
        self.refused(NoThing, shelf, lambda: shelf.put_row(0, ["x"] * 301))
        self.refused(NoThing, shelf, lambda: shelf.put_row(0, ["x"] * 1000))
        shelf.put(0, "x")
        self.refused(NoThing, shelf, lambda: shelf.put_row(0, ["x"] * 300))
        self.assertEqual(len(shelf.put_row(1, ["x"] * 299)), 299)
        self.assertEqual(len(shelf.things()), 300)

    def test_ahead_of_a_wrong_place(self):
        for many in (0, 3):
            shelf = filled(10, many)
            for place in (-1, many + 1, FAR, -FAR):
                for thing in ("", "X", "x" * 13):
                    self.refused(NoThing, shelf, lambda: shelf.put(place, thing))
                    self.refused(NoThing, shelf, lambda: shelf.put_row(place, ["x", thing]))
                self.refused(NoThing, shelf, lambda: shelf.put_row(place, []))
                self.refused(NoThing, shelf, lambda: shelf.put_row(place, ["x"] * 301))
        full = filled(26, 300)
        for place in (-1, 301, FAR):
            self.refused(NoThing, full, lambda: full.put(place, "x"))
            self.refused(NoThing, full, lambda: full.put_row(place, ["x"]))


class NoPlaces(ShelfTest):

    def test_puttings(self):
        for many in (0, 1, 5, 299):
            shelf = filled(10, many)
            for place in (-1, -2, -many - 1, many + 1, many + 2, FAR, -FAR, FARTHER, -FARTHER):
                self.refused(NoPlace, shelf, lambda: shelf.put(place, "x"))
                self.refused(NoPlace, shelf, lambda: shelf.put_row(place, ["x"]))

    def test_takings(self):
        for many in (0, 1, 5, 300):
            shelf = filled(10, many)
            for place in (-1, -2, -many - 1, many, many + 1, FAR, -FAR, FARTHER, -FARTHER):
                self.refused(NoPlace, shelf, lambda: shelf.take(place))

    def test_the_places_next_to_those(self):
        shelf = filled(10, 5)
        shelf.put(5, "last")
        shelf.put(0, "first")
        shelf.put_row(7, ["y", "z"])
        self.assertEqual(shelf.things(), ["first", "t0", "t1", "t2", "t3", "t4", "last", "y", "z"])
        self.assertEqual(shelf.take(8), "z")
        self.assertEqual(shelf.take(0), "first")

    def test_a_refused_deed_leaves_no_trace(self):
        shelf = Shelf(2)
        same = Shelf(2)
        for number in range(20):
            shelf.put(number // 2, "x")
            same.put(number // 2, "x")
            self.refused(NoPlace, shelf, lambda: shelf.put(-1, "y"))
            self.refused(NoThing, shelf, lambda: shelf.put_row(0, ["y", ""]))
            self.refused(NoPlace, shelf, lambda: shelf.take(number + 1))
        self.assertEqual(shown(shelf), shown(same))


class AskersOwn(ShelfTest):

    def test_what_is_told_may_be_changed(self):
        shelf = Shelf(10)
        told = [shelf.put_row(0, ["x", "y", "z"]), shelf.marks(), shelf.things(), shelf.renew(), shelf.marks()]
        before = shown(shelf)
        for row in told:
            row[0] = "changed"
            row.append("more")
            row.pop(1)
        self.assertEqual(shown(shelf), before)
        self.assertEqual(shelf.put(1, "w"), mark_between(10, 1, 0, before[0][0], before[0][1]))

    def test_what_is_told_stays(self):
        shelf = Shelf(10)
        run = shelf.put_row(0, ["x", "y", "z"])
        marks, things = shelf.marks(), shelf.things()
        kept = (list(run), list(marks), list(things))
        shelf.put(1, "w")
        shelf.put_row(2, ["u", "v"])
        shelf.take(0)
        renewed_marks = shelf.renew()
        kept_new = list(renewed_marks)
        shelf.put(0, "t")
        shelf.take(1)
        self.assertEqual((run, marks, things), kept)
        self.assertEqual(renewed_marks, kept_new)

    def test_lists_told_are_new_each_time(self):
        shelf = filled(10, 3)
        for ask in (shelf.marks, shelf.things, shelf.renew):
            self.assertIsNot(ask(), ask())
            self.assertIs(type(ask()), list)

    def test_a_row_handed_in(self):
        shelf = Shelf(10)
        row = ["x", "y", "z"]
        shelf.put_row(0, row)
        self.assertEqual(row, ["x", "y", "z"])
        row[0] = "changed"
        row.clear()
        self.assertEqual(shelf.things(), ["x", "y", "z"])
        self.assertEqual(shelf.take(0), "x")

    def test_a_refused_row_handed_in_stays(self):
        shelf = Shelf(10)
        row = ["x", "", "z"]
        self.refused(NoThing, shelf, lambda: shelf.put_row(0, row))
        self.refused(NoPlace, shelf, lambda: shelf.put_row(5, row[:1]))
        self.assertEqual(row, ["x", "", "z"])

    def test_what_was_told_is_handed_in_again(self):
        shelf = filled(10, 3)
        shelf.put_row(1, shelf.things())
        self.assertEqual(shelf.things(), ["t0", "t0", "t1", "t2", "t1", "t2"])
        self.sound(shelf, 10)


if __name__ == "__main__":
    unittest.main()
