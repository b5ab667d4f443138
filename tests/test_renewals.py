"""Renewals told, and marks carried by them [16, 17]."""

import unittest
from itertools import product

from shelfmark.errors import NoRoom
from shelfmark.letters import is_mark
from shelfmark.renewals import carried, renewal_rows, stem_between
from shelfmark.runs import renewed
from tests.written_out import SIGNS, between, own_of, pairs, up_to, wrong_pairs

# Letters, and the longest marks handed in.
SMALL_SHELVES = ((2, 5), (3, 3), (4, 2), (5, 2), (26, 1))


def stem_written_out(owns, low, high):
    """The stem, looked for among all marks, given length by length."""
    for own in owns:
        stems = [mark for mark in between(own, low, high) if high is None or not high.startswith(mark)]
        if stems:
            return stems[(len(stems) - 1) // 2]
    return None


def nearest(rows, mark):
    """The new marks next to a mark that is not known, by the document's words."""
    lows = [(old, new) for old, new in rows if new is not None and old < mark]
    highs = [(old, new) for old, new in rows if new is not None and old > mark]
    return (max(lows)[1] if lows else None, min(highs)[1] if highs else None)


class RenewalRows(unittest.TestCase):

    def check(self, letters, known, rows):
        with self.subTest(letters=letters, known=known):
            handed = list(known)
            told = renewal_rows(letters, handed)
            self.assertEqual(told, rows)
            self.assertEqual(handed, known)
            self.assertIs(type(told), list)
            self.assertEqual({type(row) for row in told} - {tuple}, set())

    def test_none_known(self):
        for letters in range(2, 27):
            self.check(letters, [], [])

    def test_all_standing(self):
        self.check(2, [("b", True)], [("b", "b")])
        self.check(2, [("ab", True), ("abb", True)], [("ab", "ab"), ("abb", "b")])
        self.check(26, [("nnnn", True), ("nnnnb", True), ("o", True)], [("nnnn", "g"), ("nnnnb", "n"), ("o", "t")])

    def test_all_taken(self):
        self.check(2, [("b", False)], [("b", None)])
        self.check(3, [("ab", False), ("b", False), ("cc", False)], [("ab", None), ("b", None), ("cc", None)])

    def test_some_of_each(self):
        self.check(3, [("ab", False), ("b", True)], [("ab", None), ("b", "b")])
        self.check(3, [("ab", True), ("b", False)], [("ab", "b"), ("b", None)])
        known = [("aab", True), ("ab", False), ("b", True), ("bb", False), ("bbb", False), ("c", True)]
        rows = [("aab", "ac"), ("ab", None), ("b", "bb"), ("bb", None), ("bbb", None), ("c", "c")]
        self.check(3, known, rows)

    def test_each_choice_of_standing_ones(self):
        marks = up_to(2, 3)
        for choice in product((True, False), repeat=len(marks)):
            known = list(zip(marks, choice))
            news = renewed(2, sum(choice))
            self.check(2, known, [(mark, news.pop(0) if stands else None) for mark, stands in known])

    def test_three_hundred(self):
        for letters in (2, 26):
            known = [("ab" * 100 + mark, place % 3 > 0) for place, mark in enumerate(renewed(letters, 300))]
            rows = renewal_rows(letters, known)
            self.assertEqual([old for old, new in rows], [mark for mark, stands in known])
            standing = [new for old, new in rows if new is not None]
            self.assertEqual(standing, renewed(letters, len(standing)))
            self.assertEqual([new is not None for old, new in rows], [stands for mark, stands in known])

    def test_a_list_of_the_askers_own(self):
        known = [("b", True), ("bb", False)]
        rows = renewal_rows(2, known)
        rows.clear()
        known.pop()
        self.assertEqual(renewal_rows(2, known), [("b", "b")])

    def test_known_may_be_changed_behind_the_call(self):
        known = [("b", True), ("bb", False)]
        rows = renewal_rows(2, known)
        known[0] = ("ab", False)
        known.append(("bbb", True))
        self.assertEqual(rows, [("b", "b"), ("bb", None)])


class StemBetween(unittest.TestCase):

    def test_against_all_marks_written_out(self):
        for letters, longest in SMALL_SHELVES:
            owns = [own_of(letters, 1, 0, long) for long in range(1, longest + 2)]
            for low, high in pairs(up_to(letters, longest)):
                with self.subTest(letters=letters, low=low, high=high):
                    self.assertEqual(stem_between(letters, low, high), stem_written_out(owns, low, high))

    def test_known_ones(self):
        self.assertEqual(stem_between(2, None, None), "b")
        self.assertEqual(stem_between(26, None, None), "n")
        self.assertEqual(stem_between(2, "b", None), "bb")
        self.assertEqual(stem_between(2, None, "b"), "ab")
        self.assertEqual(stem_between(3, "b", "bb"), "bab")

    def test_the_middle_one_at_the_ends_too(self):
        self.assertEqual(stem_between(26, "b", None), "n")
        self.assertEqual(stem_between(26, "n", None), "t")
        self.assertEqual(stem_between(26, None, "n"), "g")
        self.assertEqual(stem_between(26, None, "z"), "m")

    def test_no_beginning_of_high(self):
        self.assertEqual(stem_between(2, None, "bb"), "ab")
        self.assertEqual(stem_between(2, "ab", "bb"), "abb")
        self.assertEqual(stem_between(3, "b", "cb"), "bb")
        self.assertEqual(stem_between(4, "b", "db"), "c")
        self.assertEqual(stem_between(4, "b", "dddd"), "c")
        self.assertEqual(stem_between(2, "b", "bbb"), "bab")

    def test_low_not_ahead_of_high(self):
        for letters, longest in ((2, 4), (3, 3), (4, 2)):
            for low, high in wrong_pairs(up_to(letters, longest)):
                with self.subTest(letters=letters, low=low, high=high), self.assertRaises(NoRoom):
                    stem_between(letters, low, high)

    def test_long_marks(self):
        self.assertEqual(stem_between(2, "b" * 300, None), "b" * 301)
        self.assertEqual(stem_between(2, None, "a" * 299 + "b"), "a" * 300 + "b")
        self.assertEqual(stem_between(2, "b", "b" * 300), "bab")
        self.assertEqual(stem_between(2, "b" * 299, "b" * 300), "b" * 299 + "ab")
        self.assertEqual(stem_between(3, "a" * 299 + "b", "b"), "ab")
        self.assertEqual(stem_between(2, "a" + "b" * 299, "b" + "a" * 298 + "b"), "a" + "b" * 300)
        self.assertEqual(stem_between(26, "z" * 300, None), "z" * 300 + "n")

    def test_long_marks_not_ahead(self):
        mark = "ab" * 150
        for low, high in ((mark, mark), (mark, mark[:-2]), (mark[:-1] + "c", mark)):
            with self.assertRaises(NoRoom):
                stem_between(3, low, high)

    def test_what_was_told_is_handed_in_again(self):
        for letters in (2, 3, 26):
            low = None
            high = None
            for step in range(400):
                stem = stem_between(letters, low, high)
                self.assertTrue(low is None or low < stem)
                self.assertTrue(high is None or stem < high and not high.startswith(stem))
                low, high = (stem, high) if step % 3 else (low, stem)


class Carried(unittest.TestCase):

    rows = [("ab", None), ("b", "b"), ("bb", None), ("c", "c"), ("cb", None)]

    def test_known_ones(self):
        for old, new in self.rows:
            self.assertEqual(carried(3, self.rows, old), new)

    def test_other_ones(self):
        self.assertEqual(carried(3, self.rows, "aab"), "abaab")
        self.assertEqual(carried(3, self.rows, "ac"), "abac")
        self.assertEqual(carried(3, self.rows, "bab"), "bbbab")
        self.assertEqual(carried(3, self.rows, "bc"), "bbbc")
        self.assertEqual(carried(3, self.rows, "cab"), "cbcab")
        self.assertEqual(carried(3, self.rows, "cc"), "cbcc")

    def test_no_rows(self):
        self.assertEqual(carried(2, [], "b"), "bb")
        self.assertEqual(carried(26, [], "shelf"), "nshelf")

    def test_none_standing(self):
        rows = [("b", None), ("d", None)]
        self.assertEqual([carried(4, rows, mark) for mark in ("ab", "b", "c", "d", "dd")],
                         ["cab", None, "cc", None, "cdd"])

    def test_next_to_taken_ones(self):
        rows = [("b", "b"), ("bb", None), ("bbb", None), ("c", None), ("cc", "c")]
        self.assertEqual(carried(3, rows, "bbbb"), "bbbbbb")
        self.assertEqual(carried(3, rows, "cb"), "bbcb")
        self.assertEqual(carried(3, rows, "bab"), "bbbab")

    def test_against_the_words_of_the_document(self):
        for letters, longest in ((2, 3), (3, 2)):
            marks = up_to(letters, longest)
            owns = [own_of(letters, 1, 0, long) for long in range(1, 6)]
            for choice in product((None, True, False), repeat=len(marks)):
                known = [(mark, stands) for mark, stands in zip(marks, choice) if stands is not None]
                rows = renewal_rows(letters, known)
                for mark, stands in zip(marks, choice):
                    if stands is None:
                        answer = stem_written_out(owns, *nearest(rows, mark)) + mark
                    else:
                        answer = dict(rows)[mark]
                    self.assertEqual(carried(letters, rows, mark), answer, (letters, rows, mark))

    def test_order_is_kept(self):
        for letters, longest in ((2, 6), (3, 4), (4, 3), (26, 1)):
            marks = up_to(letters, longest)
            for step in (2, 3, 5, 7):
                known = [(mark, place % 4 > 0) for place, mark in enumerate(marks[step::step])]
                rows = renewal_rows(letters, known)
                moved = [carried(letters, rows, mark) for mark in marks]
                self.assertEqual(moved.count(None), [stands for mark, stands in known].count(False))
                stay = [mark for mark in moved if mark is not None]
                self.assertEqual(stay, sorted(set(stay)))
                self.assertTrue(all(is_mark(letters, mark) for mark in stay))

    def test_long_marks(self):
        rows = renewal_rows(2, [("b" * 300, True), ("b" * 302, True)])
        self.assertEqual(rows, [("b" * 300, "ab"), ("b" * 302, "b")])
        self.assertEqual(carried(2, rows, "b" * 299), "aab" + "b" * 299)
        self.assertEqual(carried(2, rows, "b" * 300), "ab")
        self.assertEqual(carried(2, rows, "b" * 301), "abb" + "b" * 301)
        self.assertEqual(carried(2, rows, "b" * 302), "b")
        self.assertEqual(carried(2, rows, "b" * 303), "bb" + "b" * 303)
        self.assertEqual(carried(2, rows, "a" * 999 + "b"), "aab" + "a" * 999 + "b")

    def test_carried_again_and_again(self):
        rows = renewal_rows(26, [(mark, True) for mark in renewed(26, 300)])
        marks = ["b" * 300, "mid" * 100, SIGNS[25] * 300]
        for step in range(100):
            moved = [carried(26, rows, mark) for mark in marks]
            self.assertTrue(all(new.endswith(old) for new, old in zip(moved, marks)))
            self.assertEqual(moved, sorted(set(moved)))
            marks = moved
        self.assertGreater(min(len(mark) for mark in marks), 400)

    def test_rows_stay(self):
        rows = list(self.rows)
        for mark in ("aab", "ab", "b", "bab", "cc"):
            carried(3, rows, mark)
        self.assertEqual(rows, self.rows)


if __name__ == "__main__":
    unittest.main()
