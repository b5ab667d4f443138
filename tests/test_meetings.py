"""States laid together [2, 3, 21]."""

import unittest
from copy import deepcopy
from itertools import permutations, product

from shelfmark.errors import NoState
from shelfmark.hands import Hand
from shelfmark.meetings import laid
from shelfmark.renewals import carried
from tests.at_work import Work, changed_by_the_asker, same_hand, states_at_work

BLANK = (3, 2, [], [], [])


def laid_written_out(one, other):
    """Two states laid together, by the document's words; other has as many renewals or more."""
    letters, hands, renewals, things, taken = other
    moved = [list(one[3]), [(mark, None) for mark in one[4]]]
    for rows in renewals[len(one[2]):]:
        moved = [[(carried(letters, rows, mark), thing) for mark, thing in part] for part in moved]
        moved = [[(mark, thing) for mark, thing in part if mark is not None] for part in moved]
    both = sorted(moved[0] + things)
    firsts = [row for place, row in enumerate(both) if place == 0 or both[place - 1][0] != row[0]]
    return (letters, hands, renewals, firsts, sorted({mark for mark, gone in moved[1]} | set(taken)))


class LaidTest(unittest.TestCase):

    def check(self, one, other, answer):
        """Laid either way about, they are the answer, and what was handed in stays."""
        with self.subTest(one=one, other=other):
            handed = deepcopy((one, other))
            self.assertEqual(laid(one, other), answer)
            self.assertEqual(laid(other, one), answer)
            self.assertEqual((one, other), handed)

    def refused(self, one, other):
        handed = deepcopy((one, other))
        for first, second in ((one, other), (other, one)):
            with self.subTest(first=first, second=second), self.assertRaises(NoState) as caught:
                laid(first, second)
            self.assertEqual(caught.exception.row, 0)
            self.assertIs(type(caught.exception.row), int)
        self.assertEqual((one, other), handed)


class OfOneAge(LaidTest):

    def test_of_nothing(self):
        self.check(BLANK, BLANK, BLANK)
        state = (3, 2, [], [("b", "x"), ("c", "y")], ["c"])
        self.check(BLANK, state, state)
        self.check(state, state, state)

    def test_each_once(self):
        one = (3, 2, [], [("ab", "w"), ("b", "x"), ("c", "y")], ["ab", "c"])
        other = (3, 2, [], [("b", "x"), ("bb", "z"), ("c", "y")], ["b", "c"])
        both = (3, 2, [], [("ab", "w"), ("b", "x"), ("bb", "z"), ("c", "y")], ["ab", "b", "c"])
        self.check(one, other, both)
        self.check(both, one, both)
        self.check(both, other, both)

    def test_taken_by_one_is_taken(self):
        self.check((3, 2, [], [("b", "x")], ["b"]), (3, 2, [], [("b", "x")], []), (3, 2, [], [("b", "x")], ["b"]))

    def test_the_lesser_one_of_unlike_things(self):
        one = (3, 2, [], [("b", "x"), ("c", "10")], [])
        other = (3, 2, [], [("b", "w"), ("c", "9")], ["b"])
        self.check(one, other, (3, 2, [], [("b", "w"), ("c", "10")], ["b"]))

    def test_with_the_same_renewals(self):
        renewals = [[("b", "b"), ("bb", None)], []]
        one = (3, 2, renewals, [("b", "x")], [])
        other = (3, 2, deepcopy(renewals), [("c", "y")], ["c"])
        self.check(one, other, (3, 2, renewals, [("b", "x"), ("c", "y")], ["c"]))


class OfOtherAges(LaidTest):

    rows = [("ab", None), ("b", "b"), ("bb", None), ("c", "c")]

    def test_carried_by_one(self):
        one = (3, 2, [], [("ab", "v"), ("b", "w"), ("bb", "x"), ("bc", "y"), ("cb", "z")], ["b", "bb", "bc"])
        other = (3, 2, [self.rows], [("b", "w"), ("bb", "new"), ("c", "old")], ["bb"])
        things = [("b", "w"), ("bb", "new"), ("bbbc", "y"), ("c", "old"), ("cbcb", "z")]
        self.check(one, other, (3, 2, [self.rows], things, ["b", "bb", "bbbc"]))

    def test_carried_by_several_one_by_one(self):
        renewals = [[("b", "b")], [("b", "bb")], [("b", None), ("bb", "c"), ("bc", None)]]
        one = (3, 2, renewals[:1], [("b", "x"), ("c", "y")], ["c"])
        other = (3, 2, renewals, [("c", "x")], [])
        step = carried(3, renewals[2], carried(3, renewals[1], "c"))
        self.assertEqual(step, "cbcc")
        self.check(one, other, (3, 2, renewals, [("c", "x"), ("cbcc", "y")], ["cbcc"]))

    def test_let_go_by_a_later_one(self):
        renewals = [[("b", "bb"), ("c", "cc")], [("bb", None), ("cc", "b")], [("b", None)]]
        one = (3, 2, [], [("b", "x"), ("c", "y")], ["b"])
        self.check(one, (3, 2, renewals[:1], [], []), (3, 2, renewals[:1], [("bb", "x"), ("cc", "y")], ["bb"]))
        self.check(one, (3, 2, renewals[:2], [], []), (3, 2, renewals[:2], [("b", "y")], []))
        self.check(one, (3, 2, renewals, [], []), (3, 2, renewals, [], []))

    def test_renewals_of_nothing(self):
        one = (2, 1, [], [("b", "x")], ["b"])
        self.check(one, (2, 1, [[], []], [], []), (2, 1, [[], []], [("bbb", "x")], ["bbb"]))

    def test_against_the_words_of_the_document(self):
        for letters, hands in ((2, 1), (3, 2), (4, 3), (26, 2)):
            states = states_at_work(letters, hands, letters, 60)
            for one in states[::5]:
                for other in states[::7]:
                    if len(one[2]) <= len(other[2]):
                        self.check(one, other, laid_written_out(one, other))


class NotLaid(LaidTest):

    def test_other_letters_or_hands(self):
        for letters, hands in ((2, 1), (4, 2), (26, 2), (3, 1)):
            self.refused(BLANK, (letters, hands, [], [], []))
            self.refused(BLANK, (letters, hands, [[]], [], []))
        self.refused((26, 3, [], [("b", "x")], []), (26, 4, [], [("b", "x")], []))

    def test_other_renewals(self):
        one = [("b", "b"), ("c", "c")]
        for other in ([], one[:1], one + [("cc", None)], [("b", "b"), ("c", None)], [("b", "bb"), ("c", "c")]):
            self.refused((3, 2, [one], [], []), (3, 2, [other], [], []))
            self.refused((3, 2, [one], [], []), (3, 2, [other, one], [], []))
            self.refused((3, 2, [one, one], [], []), (3, 2, [one, other, one], [], []))
            self.refused((3, 2, [one, one], [], []), (3, 2, [one, other], [], []))

    def test_the_last_ones_are_not_the_first_ones(self):
        self.refused((3, 2, [[], [("b", "b")]], [], []), (3, 2, [[("b", "b")]], [], []))


class EveryWay(LaidTest):

    def test_three_in_every_grouping(self):
        for letters, hands in ((2, 1), (3, 2), (5, 4), (26, 3)):
            states = states_at_work(letters, hands, letters + 1, 50)
            for start in range(0, len(states) // 2, 3):
                three = (states[start], states[start * 2], states[-1 - start])
                whole = laid(laid(*three[:2]), three[2])
                for one, two, last in permutations(three):
                    self.assertEqual(laid(laid(one, two), last), whole)
                    self.assertEqual(laid(one, laid(two, last)), whole)
                for one in three + (whole,):
                    self.assertEqual(laid(one, one), one)
                    self.assertEqual(laid(whole, one), whole)


class WhatTheAskerHolds(LaidTest):

    def states(self):
        renewals = [[("b", "b"), ("c", None)], [("b", "b")]]
        return [(3, 2, deepcopy(renewals[:age]), [("b", "x"), ("bb", "y")], ["bb"]) for age in (0, 1, 2, 2)]

    def meetings(self):
        """Each two of the states with what they are laid to, and a copy of that; all of them new each time."""
        for place, other in product(range(4), repeat=2):
            states = self.states()
            told = laid(states[place], states[other])
            yield (states[place], states[other], told, deepcopy(told))

    def test_what_was_told_is_the_askers_own(self):
        for one, other, told, kept in self.meetings():
            handed = deepcopy((one, other))
            changed_by_the_asker(told)
            self.assertEqual((one, other), handed)
            self.assertEqual(laid(one, other), kept)

    def test_what_was_handed_in_may_be_changed(self):
        for one, other, told, kept in self.meetings():
            changed_by_the_asker(one)
            changed_by_the_asker(other)
            self.assertEqual(told, kept)


class HandsLay(unittest.TestCase):

    def test_known_ones(self):
        one = Hand(26, 2, 0)
        other = Hand(26, 2, 1)
        self.assertEqual([one.put(0, "x"), one.put(1, "y")], ["n", "p"])
        self.assertIsNone(other.lay(one.state()))
        self.assertEqual((other.marks(), other.things(), other.number()), (["n", "p"], ["x", "y"], 1))
        self.assertEqual(other.put(1, "z"), "o")
        one.take(0)
        self.assertEqual(one.renew(), [("n", None), ("p", "n")])
        one.lay(other.state())
        self.assertEqual(list(zip(one.marks(), one.things())), [("go", "z"), ("n", "y")])
        other.lay(one.state())
        self.assertEqual(other.state(), one.state())
        self.assertEqual((one.number(), other.number(), one.age(), other.age()), (0, 1, 1, 1))
        self.assertEqual(other.put(0, "w"), "g")

    def test_the_state_is_then_the_laid_one(self):
        for letters, hands in ((2, 1), (3, 2), (26, 4)):
            work = Work(letters, hands, 3)
            states = states_at_work(letters, hands, 3, 30)
            for step in range(30):
                work.step()
                for number, hand in enumerate(work.hands):
                    for state in states[step % 5::5]:
                        other = same_hand(hand)
                        self.assertIsNone(other.lay(state))
                        self.assertEqual(other.state(), laid(hand.state(), state))
                        self.assertEqual(other.number(), number)
                        self.assertEqual(other.age(), len(other.state()[2]))

    def test_once_more_changes_nothing(self):
        work = Work(3, 2, 5)
        for step in range(60):
            work.step()
            for hand in work.hands:
                state = hand.state()
                hand.lay(state)
                self.assertEqual(hand.state(), state)

    def test_refused_ones(self):
        hand = Hand(3, 2, 0)
        hand.put(0, "x")
        hand.renew()
        hand.put(1, "y")
        hand.take(0)
        before = hand.state()
        wrong = [(2, 1, [], [], []), (4, 2, [], [], []), (3, 1, before[2], [], []), (3, 2, [[]], [("c", "z")], ["c"])]
        for state in wrong + [(3, 2, [[("b", None)], []], [], []), (3, 2, [[], before[2][0]], [], [])]:
            handed = deepcopy(state)
            with self.subTest(state=state), self.assertRaises(NoState) as caught:
                hand.lay(state)
            self.assertEqual(caught.exception.row, 0)
            self.assertEqual(hand.state(), before)
            self.assertEqual(state, handed)

    def test_a_state_that_was_laid_may_be_changed(self):
        maker = Hand(3, 2, 0)
        for place in range(3):
            maker.put(place, f"t{place}")
        maker.take(1)
        maker.renew()
        maker.take(0)
        for hand in (Hand(3, 2, 1), same_hand(maker)):
            state = maker.state()
            hand.lay(state)
            before = hand.state()
            changed_by_the_asker(state)
            self.assertEqual(hand.state(), before)
            self.assertEqual(before, maker.state())

    def test_a_hand_told_of_renewals_makes_further_ones(self):
        maker = Hand(3, 2, 0)
        maker.put(0, "x")
        maker.renew()
        other = Hand(3, 2, 0)
        other.lay(maker.state())
        other.renew()
        self.assertEqual((maker.age(), other.age()), (1, 2))
        maker.lay(other.state())
        self.assertEqual(maker.state(), other.state())

    def test_many_marks_carried_by_many_renewals(self):
        maker = Hand(3, 2, 0)
        for place in range(150):
            maker.put(place, f"t{place}")
        other = Hand(3, 2, 1)
        other.lay(maker.state())
        for place in range(150):
            other.put(2 * place, f"o{place}")
        order = other.things()
        for step in range(1000):
            maker.renew()
        other.lay(maker.state())
        self.assertEqual((other.age(), other.things()), (1000, order))
        mark = other.put(150, "between")
        self.assertTrue(other.marks()[149] < mark < other.marks()[151])
        maker.lay(other.state())
        self.assertEqual(maker.state(), other.state())

    def test_next_to_marks_grown_long(self):
        maker = Hand(3, 2, 0)
        other = Hand(3, 2, 1)
        for place in range(3):
            other.put(place, f"t{place}")
        for step in range(1000):
            maker.renew()
        other.lay(maker.state())
        self.assertEqual([len(mark) for mark in other.marks()], [1001, 1002, 1003])
        for place in (0, 2, 4, 6):
            other.put(place, "x")
        self.assertEqual(other.things(), ["x", "t0", "x", "t1", "x", "t2", "x"])


if __name__ == "__main__":
    unittest.main()
