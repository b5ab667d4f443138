"""Hands, and what each does by itself [2, 15, 18, 19, 20]."""

import unittest
from random import Random

from shelfmark.between import mark_between
from shelfmark.errors import NoHand, NoLetters, NoPlace, NoThing
from shelfmark.hands import Hand
from shelfmark.letters import is_mark
from shelfmark.renewals import renewal_rows
from shelfmark.runs import renewed
from tests.at_work import changed_by_the_asker, standing
from tests.inputs import BAD_SIGNS, BAD_THINGS, FAR, FARTHER, GOOD_SIGNS
from tests.written_out import all_hands, is_own


class HandTest(unittest.TestCase):

    def refused(self, kind, hand, call):
        """The call is refused, and behind that the hand is as it was."""
        before = hand.state()
        with self.assertRaises(kind):
            call()
        self.assertEqual(hand.state(), before)

    def sound(self, hand):
        """The state is of the told kinds, and what is shown is what stands in it."""
        state = hand.state()
        self.assertIs(type(state), tuple)
        self.assertEqual([type(part) for part in state], [int, int, list, list, list])
        letters, hands, renewals, things, taken = state
        for rows in renewals:
            self.assertIs(type(rows), list)
            self.assertTrue(all(type(row) is tuple and len(row) == 2 for row in rows))
        self.assertTrue(all(type(row) is tuple and len(row) == 2 for row in things))
        marks = [mark for mark, thing in things]
        self.assertEqual(marks, sorted(set(marks)))
        self.assertEqual(taken, sorted(set(taken)))
        self.assertEqual(set(taken) - set(marks), set())
        self.assertTrue(all(is_mark(letters, mark) for mark in marks))
        self.assertEqual(list(zip(hand.marks(), hand.things())), standing(state))
        self.assertEqual((type(hand.age()), type(hand.number())), (int, int))
        self.assertEqual(hand.age(), len(renewals))


def filled(letters, hands, number, many):
    hand = Hand(letters, hands, number)
    for place in range(many):
        hand.put(place, f"t{place}")
    return hand


class NewHands(HandTest):

    def test_a_new_hand_has_nothing(self):
        for letters in range(2, 27):
            for hands, number in all_hands(letters):
                hand = Hand(letters, hands, number)
                self.assertEqual((hand.marks(), hand.things(), hand.age(), hand.number()), ([], [], 0, number))
                self.assertEqual(hand.state(), (letters, hands, [], [], []))
                self.sound(hand)

    def test_letters_and_hands_that_there_are_not(self):
        wrong = [(letters, 1) for letters in (1, 0, -1, 27, 28, FAR, -FAR, FARTHER, -FARTHER)]
        wrong += [(26, hands) for hands in (0, -1, 26, 27, FAR, -FAR, FARTHER, -FARTHER)] + [(2, 2), (3, 3)]
        for letters, hands in wrong:
            for number in (0, 1, -1, 30, FAR):
                with self.subTest(number=number), self.assertRaises(NoLetters):
                    Hand(letters, hands, number)

    def test_numbers_that_none_has(self):
        for letters, hands in ((2, 1), (3, 1), (3, 2), (26, 1), (26, 25)):
            for number in (-1, -2, -hands, hands, hands + 1, letters, FAR, -FAR, FARTHER, -FARTHER):
                with self.subTest(letters=letters, hands=hands), self.assertRaises(NoHand):
                    Hand(letters, hands, number)

    def test_hands_stand_apart(self):
        one = Hand(5, 2, 0)
        other = Hand(5, 2, 1)
        one.put(0, "x")
        one.take(0)
        one.renew()
        self.assertEqual(other.state(), (5, 2, [], [], []))


class Puttings(HandTest):

    def test_known_ones(self):
        hand = Hand(26, 2, 0)
        self.assertEqual([hand.put(0, "one"), hand.put(1, "two"), hand.put(0, "three")], ["n", "p", "l"])
        self.assertEqual(hand.put(2, "four"), "nz")
        self.assertEqual(hand.things(), ["three", "one", "four", "two"])
        self.assertEqual(hand.marks(), ["l", "n", "nz", "p"])
        self.assertEqual(Hand(26, 2, 1).put(0, "one"), "m")

    def test_taken_marks_are_still_in_the_way(self):
        hand = Hand(4, 1, 0)
        self.assertEqual([hand.put(0, "x"), hand.put(1, "y")], ["c", "d"])
        self.assertEqual(hand.take(1), "d")
        self.assertEqual(hand.put(1, "z"), "cc")
        self.assertEqual(hand.take(0), "c")
        self.assertEqual(hand.put(0, "w"), "b")
        self.assertEqual(hand.take(0), "b")
        self.assertEqual(hand.put(0, "v"), "ad")
        self.assertEqual(hand.put(2, "u"), "cd")
        self.assertEqual(hand.things(), ["v", "z", "u"])
        self.assertEqual(hand.marks(), ["ad", "cc", "cd"])

    def test_ahead_of_all_known_ones_where_all_are_taken(self):
        hand = filled(3, 1, 0, 5)
        while hand.marks():
            hand.take(0)
        first = hand.state()[3][0][0]
        self.assertEqual(hand.put(0, "x"), mark_between(3, 1, 0, None, first))

    def test_the_first_known_mark_behind_and_no_later_one(self):
        hand = filled(26, 3, 1, 6)
        marks = hand.marks()
        for step in range(3):
            hand.take(2)
        self.assertEqual(hand.marks(), marks[:2] + marks[5:])
        self.assertEqual(hand.put(2, "x"), mark_between(26, 3, 1, marks[1], marks[2]))
        self.assertEqual(hand.put(3, "y"), mark_between(26, 3, 1, hand.marks()[2], marks[2]))

    def test_against_the_words_of_the_document(self):
        for letters, hands, number in ((2, 1, 0), (3, 1, 0), (3, 2, 0), (3, 2, 1), (26, 1, 0), (26, 25, 7)):
            chance = Random(letters + number)
            hand = Hand(letters, hands, number)
            known = {}
            taken = []
            for step in range(150):
                shown = [mark for mark in sorted(known) if mark not in taken]
                self.assertEqual(hand.marks(), shown)
                place = chance.randint(0, len(shown))
                if place < len(shown) and chance.random() < 0.4:
                    self.assertEqual(hand.take(place), shown[place])
                    taken.append(shown[place])
                else:
                    low = shown[place - 1] if place else None
                    behind = [mark for mark in sorted(known) if low is None or mark > low]
                    high = behind[0] if behind else None
                    mark = hand.put(place, f"t{step}")
                    self.assertEqual(mark, mark_between(letters, hands, number, low, high))
                    self.assertTrue(is_own(hands, number, mark))
                    self.assertNotIn(mark, known)
                    self.assertLessEqual(len(mark), 1 + max(len(low or ""), len(high or "")))
                    known[mark] = f"t{step}"
                self.assertEqual(hand.state(), (letters, hands, [], sorted(known.items()), sorted(taken)))
            self.sound(hand)

    def test_alike_things(self):
        hand = Hand(3, 2, 1)
        for place in (0, 0, 1, 3):
            hand.put(place, "x")
        self.assertEqual(hand.things(), ["x"] * 4)
        self.sound(hand)

    def test_all_that_a_thing_may_be(self):
        hand = Hand(26, 1, 0)
        for thing in list(GOOD_SIGNS) + ["x" * 12, "0" * 12, "00", "taken", "renewal"]:
            hand.put(0, thing)
            self.assertEqual(hand.things()[0], thing)

    def test_more_than_three_hundred(self):
        hand = filled(2, 1, 0, 310)
        self.assertEqual(len(hand.marks()), 310)
        self.sound(hand)

    def test_no_things(self):
        hand = filled(26, 2, 1, 3)
        hand.take(1)
        for thing in BAD_THINGS + BAD_SIGNS:
            for place in (0, 1, 2, 3, -1, FAR, FARTHER):
                with self.subTest(thing=thing):
                    self.refused(NoThing, hand, lambda: hand.put(place, thing))

    def test_no_places(self):
        for many in (0, 1, 3):
            hand = filled(26, 2, 1, many)
            for place in (-1, -2, -many - 1, many + 1, many + 2, 300, FAR, -FAR, FARTHER, -FARTHER):
                self.refused(NoPlace, hand, lambda: hand.put(place, "x"))

    def test_places_are_those_of_what_is_shown(self):
        hand = filled(26, 2, 1, 3)
        hand.take(0)
        self.refused(NoPlace, hand, lambda: hand.put(3, "x"))
        hand.put(2, "x")
        self.assertEqual(hand.things(), ["t1", "t2", "x"])


class Takings(HandTest):

    def test_known_ones(self):
        hand = filled(26, 1, 0, 3)
        self.assertEqual(hand.marks(), ["n", "o", "p"])
        self.assertEqual(hand.take(1), "o")
        self.assertEqual((hand.marks(), hand.things()), (["n", "p"], ["t0", "t2"]))
        self.assertEqual(hand.state(), (26, 1, [], [("n", "t0"), ("o", "t1"), ("p", "t2")], ["o"]))
        self.assertEqual([hand.take(1), hand.take(0)], ["p", "n"])
        self.assertEqual((hand.marks(), hand.things()), ([], []))
        self.assertEqual(hand.state(), (26, 1, [], [("n", "t0"), ("o", "t1"), ("p", "t2")], ["n", "o", "p"]))
        self.sound(hand)

    def test_no_places(self):
        for many in (0, 1, 3):
            hand = filled(26, 2, 1, many)
            for place in (-1, -2, -many, many, many + 1, 300, FAR, -FAR, FARTHER, -FARTHER):
                if place < 0 or place >= many:
                    self.refused(NoPlace, hand, lambda: hand.take(place))

    def test_places_are_those_of_what_is_shown(self):
        hand = filled(26, 2, 1, 3)
        hand.take(0)
        self.refused(NoPlace, hand, lambda: hand.take(2))


class Renewals(HandTest):

    def test_known_ones(self):
        hand = filled(26, 2, 0, 3)
        self.assertEqual(hand.marks(), ["n", "p", "r"])
        hand.take(1)
        rows = hand.renew()
        self.assertEqual(rows, [("n", "i"), ("p", None), ("r", "r")])
        self.assertEqual((hand.marks(), hand.things(), hand.age()), (["i", "r"], ["t0", "t2"], 1))
        self.assertEqual(hand.state(), (26, 2, [rows], [("i", "t0"), ("r", "t2")], []))
        again = hand.renew()
        self.assertEqual(again, [("i", "i"), ("r", "r")])
        self.assertEqual(hand.state(), (26, 2, [rows, again], [("i", "t0"), ("r", "t2")], []))
        self.assertEqual(hand.age(), 2)
        self.sound(hand)

    def test_of_nothing(self):
        hand = Hand(3, 2, 0)
        self.assertEqual([hand.renew(), hand.renew()], [[], []])
        self.assertEqual(hand.state(), (3, 2, [[], []], [], []))
        self.assertEqual(hand.age(), 2)

    def test_of_taken_ones_alone(self):
        hand = filled(26, 1, 0, 2)
        hand.take(0)
        hand.take(0)
        self.assertEqual(hand.renew(), [("n", None), ("o", None)])
        self.assertEqual(hand.state(), (26, 1, [[("n", None), ("o", None)]], [], []))
        self.assertEqual(hand.put(0, "x"), "n")

    def test_of_all_marks_that_are_known(self):
        hand = Hand(2, 1, 0)
        for step in range(60):
            hand.put(step // 2, f"t{step}")
            if step % 3 == 0:
                hand.take(step // 3)
            if step % 7 == 0:
                state = hand.state()
                things = hand.things()
                rows = hand.renew()
                self.assertEqual(rows, renewal_rows(2, [(mark, mark not in state[4]) for mark, thing in state[3]]))
                self.assertEqual(hand.marks(), renewed(2, len(things)))
                self.assertEqual(hand.things(), things)
                self.assertEqual(hand.state()[2], state[2] + [rows])
                self.assertEqual(hand.state()[4], [])
                self.assertEqual(hand.age(), len(state[2]) + 1)
                self.sound(hand)

    def test_by_another_hand(self):
        for hands in (2, 3, 25):
            for number in range(1, hands):
                hand = filled(26, hands, number, 3)
                hand.take(1)
                self.refused(NoHand, hand, hand.renew)
                self.assertEqual(hand.age(), 0)

    def test_three_hundred_marks_and_a_thousand_renewals(self):
        hand = filled(26, 2, 0, 300)
        for step in range(1000):
            rows = hand.renew()
        self.assertEqual(hand.age(), 1000)
        self.assertEqual(rows, [(mark, mark) for mark in renewed(26, 300)])
        self.assertEqual(hand.things(), [f"t{place}" for place in range(300)])
        self.assertEqual(len(hand.state()[2]), 1000)


class WhatTheAskerHolds(HandTest):

    def busy_hand(self):
        hand = filled(26, 2, 0, 5)
        hand.take(3)
        hand.renew()
        hand.put(2, "x")
        hand.take(0)
        hand.renew()
        hand.take(1)
        return hand

    def test_told_lists_are_the_askers_own(self):
        hand = self.busy_hand()
        before = hand.state()
        hand.marks().clear()
        hand.things().append("y")
        changed_by_the_asker(hand.state())
        self.assertEqual(hand.state(), before)
        self.assertEqual(list(zip(hand.marks(), hand.things())), standing(before))
        rows = hand.renew()
        kept = list(rows)
        rows.clear()
        self.assertEqual(hand.state()[2][-1], kept)

    def test_told_lists_stay_as_they_were(self):
        hand = self.busy_hand()
        state = hand.state()
        copy = self.busy_hand().state()
        marks, things = hand.marks(), hand.things()
        rows = hand.renew()
        kept = (list(marks), list(things), list(rows))
        hand.put(0, "y")
        hand.take(1)
        hand.renew()
        self.assertEqual(state, copy)
        self.assertEqual((marks, things, rows), kept)


if __name__ == "__main__":
    unittest.main()
