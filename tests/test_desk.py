"""The desk, told rows of words [2, 23]."""

import re
import unittest
from random import Random

from shelfmark.desk import Desk
from shelfmark.errors import NoHand, NoLetters, NoLine, NoPlace, NoShelf, NoState, NoThing, ShelfError
from shelfmark.hands import Hand
from shelfmark.told import read_state, state_texts
from tests.inputs import BAD_THINGS, GOOD_SIGNS

ALL_SIGNS = [chr(number) for number in range(33, 127)]
NUMBER = "(?:0|[1-9][0-9]{0,3})"
FORMS = (f"shelf {NUMBER} {NUMBER}", f"put {NUMBER} {NUMBER} [^ \n]+", f"take {NUMBER} {NUMBER}",
         f"lay {NUMBER} {NUMBER}", "renew", f"list {NUMBER}", f"state {NUMBER}", f"tell {NUMBER}\n(?s:.*)")
GOOD_ROWS = ["shelf 26 2", "put 0 0 atlas", "put 1 0 ?", "take 0 0", "lay 0 1", "renew", "list 0", "state 1",
             "tell 1\n26 2 0\nb x", "put 9999 9999 9999", "tell 0\n"]
WORDS = ["shelf", "put", "take", "lay", "renew", "list", "state", "tell"]
BAD_NUMBERS = ["00", "01", "0001", "10000", "00000", "1" * 60, "1" * 5000, "-1", "+1", "-0", "x", "1x", "1.0", "1_0",
               "0x1", "", "two", "?"] + [f"1{sign}" for sign in ALL_SIGNS if not sign.isdigit()]


def is_row(row):
    return any(re.fullmatch(form, row) for form in FORMS)


def told_desk(*rows):
    desk = Desk()
    for row in rows:
        desk.say(row)
    return desk


def states_of(desk, hands):
    return [desk.say(f"state {number}") for number in range(hands)]


class DeskTest(unittest.TestCase):

    def says(self, desk, row, answer):
        with self.subTest(row=row):
            told = desk.say(row)
            self.assertEqual(told, answer)
            self.assertIs(type(told), str)

    def refused(self, kind, desk, row, hands=0):
        """The row is refused, and behind that all hands are as they were."""
        before = states_of(desk, hands)
        with self.subTest(row=row[:80]), self.assertRaises(kind) as caught:
            desk.say(row)
        self.assertEqual(states_of(desk, hands), before)
        return caught.exception


class Answers(DeskTest):

    def test_a_day_at_the_desk(self):
        desk = Desk()
        for row, answer in (
            ("shelf 26 2", "ok"),
            ("list 0", ""), ("list 1", ""), ("state 0", "26 2 0"), ("state 1", "26 2 0"),
            ("put 0 0 atlas", "n"), ("put 0 1 bible", "p"), ("list 0", "n atlas\np bible"), ("list 1", ""),
            ("lay 1 0", "ok"), ("list 1", "n atlas\np bible"),
            ("put 1 1 atlas2", "o"), ("list 0", "n atlas\np bible"), ("list 1", "n atlas\no atlas2\np bible"),
            ("take 0 0", "n"), ("list 0", "p bible"),
            ("state 0", "26 2 0\nn atlas taken\np bible"),
            ("renew", "n -\np n"), ("list 0", "n bible"),
            ("state 0", "26 2 1\nrenewal 2\nn -\np n\nn bible"),
            ("state 1", "26 2 0\nn atlas\no atlas2\np bible"),
            ("lay 0 1", "ok"), ("list 0", "go atlas2\nn bible"), ("list 1", "n atlas\no atlas2\np bible"),
            ("lay 1 0", "ok"), ("list 1", "go atlas2\nn bible"),
            ("put 1 0 first", "g"), ("take 1 2", "n"), ("list 1", "g first\ngo atlas2"),
            ("state 1", "26 2 1\nrenewal 2\nn -\np n\ng first\ngo atlas2\nn bible taken"),
            ("tell 0\n26 2 1\nrenewal 2\nn -\np n\ng first\ngo atlas2\nn bible taken", "ok"),
            ("list 0", "g first\ngo atlas2"),
            ("renew", "g i\ngo r\nn -"), ("renew", "i i\nr r"),
            ("state 0", "26 2 3\nrenewal 2\nn -\np n\nrenewal 3\ng i\ngo r\nn -\nrenewal 2\ni i\nr r\n"
                        "i first\nr atlas2"),
            ("lay 1 0", "ok"), ("lay 1 1", "ok"), ("list 1", "i first\nr atlas2"),
        ):
            self.says(desk, row, answer)

    def test_renewals_of_nothing(self):
        desk = told_desk("shelf 2 1")
        self.says(desk, "renew", "")
        self.says(desk, "state 0", "2 1 1\nrenewal 0")
        self.says(desk, "list 0", "")

    def test_lay_is_to_the_first_one(self):
        desk = told_desk("shelf 5 4", "put 2 0 x")
        self.says(desk, "lay 3 2", "ok")
        self.assertEqual([desk.say(f"list {number}") for number in range(4)], ["", "", "d x", "d x"])

    def test_hands_of_one_desk_stand_apart(self):
        one = told_desk("shelf 3 1", "put 0 0 x")
        other = told_desk("shelf 3 1")
        self.assertEqual((one.say("list 0"), other.say("list 0")), ("b x", ""))

    def test_a_shelf_told_anew_has_new_hands(self):
        desk = told_desk("shelf 26 3", "put 2 0 x", "put 0 0 y", "renew")
        self.says(desk, "shelf 26 3", "ok")
        self.assertEqual(states_of(desk, 3), ["26 3 0"] * 3)
        self.says(desk, "shelf 5 2", "ok")
        self.assertEqual(states_of(desk, 2), ["5 2 0"] * 2)
        self.refused(NoHand, desk, "list 2", 2)

    def test_all_shelves_that_there_are(self):
        for letters in range(2, 27):
            for hands in range(1, letters):
                desk = told_desk(f"shelf {letters} {hands}")
                self.says(desk, f"state {hands - 1}", f"{letters} {hands} 0")
                self.refused(NoHand, desk, f"state {hands}", hands)

    def test_all_that_a_thing_may_be(self):
        desk = told_desk("shelf 26 1")
        for thing in list(GOOD_SIGNS) + ["x" * 12, "0" * 12, "taken", "renewal", "10000", "007"] + WORDS:
            desk.say(f"put 0 0 {thing}")
            self.assertTrue(desk.say("list 0").split("\n")[0].endswith(f" {thing}"))

    def test_states_told_from_desk_to_desk(self):
        one = told_desk("shelf 4 3", "put 0 0 x", "put 1 0 y", "lay 0 1", "take 0 0", "renew", "put 0 1 z")
        other = told_desk("shelf 4 3", "put 2 0 w")
        for number in range(3):
            self.says(other, f"tell 1\n{one.say(f'state {number}')}", "ok")
        self.says(one, "lay 0 1", "ok")
        self.assertEqual(other.say("state 1"), one.say("state 0"))

    def test_against_hands(self):
        for letters, count in ((2, 1), (3, 2), (26, 25)):
            chance = Random(letters)
            desk = told_desk(f"shelf {letters} {count}")
            hands = [Hand(letters, count, number) for number in range(count)]
            for step in range(200):
                number = chance.randrange(count)
                hand = hands[number]
                deed = chance.choice(("put", "put", "take", "lay", "tell", "renew"))
                other = chance.randrange(count)
                place = chance.randint(0, len(hand.marks()))
                if deed == "put":
                    self.says(desk, f"put {number} {place} t{step}", hand.put(place, f"t{step}"))
                elif deed == "take" and place < len(hand.marks()):
                    self.says(desk, f"take {number} {place}", hand.take(place))
                elif deed == "lay":
                    hand.lay(hands[other].state())
                    self.says(desk, f"lay {number} {other}", "ok")
                elif deed == "tell":
                    hand.lay(hands[other].state())
                    self.says(desk, "\n".join([f"tell {number}"] + state_texts(hands[other].state())), "ok")
                elif deed == "renew":
                    rows = [f"{old} {'-' if new is None else new}" for old, new in hands[0].renew()]
                    self.says(desk, "renew", "\n".join(rows))
                pairs = zip(hand.marks(), hand.things())
                self.says(desk, f"list {number}", "\n".join(f"{mark} {thing}" for mark, thing in pairs))
                self.says(desk, f"state {number}", "\n".join(state_texts(hand.state())))
                self.assertEqual(read_state(desk.say(f"state {number}").split("\n")), hand.state())

    def test_a_thousand_renewals(self):
        desk = told_desk("shelf 3 2", "put 0 0 x", "lay 1 0", "put 1 0 y")
        for step in range(1000):
            self.assertEqual(desk.say("renew"), ("b b"))
        self.says(desk, "lay 1 0", "ok")
        self.says(desk, "tell 0\n" + desk.say("state 1"), "ok")
        self.assertEqual(desk.say("state 0"), desk.say("state 1"))
        self.assertEqual([line.split(" ")[1] for line in desk.say("list 0").split("\n")], ["y", "x"])


class NoRows(DeskTest):

    def wrong(self, row):
        """The row is none, with a shelf and without one."""
        self.assertFalse(is_row(row), row)
        self.refused(NoLine, Desk(), row)
        self.refused(NoLine, told_desk("shelf 26 2", "put 0 0 x", "lay 1 0", "put 1 1 y"), row, 2)

    def test_words_unlike(self):
        for row in ("", " ", "\n", "shelves 26 2", "Shelf 26 2", "PUT 0 0 x", "puts 0 0 x", "list0", "x", "0", "-",
                    "lie 0 1", "renewal", "renews", "tells 0\n26 2 0", "help", "age 0", "things 0", "marks 0", "lay0 1",
                    "HAND", "shelf LETTERS HANDS"):
            self.wrong(row)

    def test_too_few_words(self):
        for row in GOOD_ROWS:
            head, end, rest = row.partition("\n")
            words = head.split(" ")
            for many in range(len(words)):
                self.wrong(" ".join(words[:many]) + end + rest)

    def test_too_many_words(self):
        for row in GOOD_ROWS:
            head, end, rest = row.partition("\n")
            for more in ("0", "x", "0 0", "renew"):
                self.wrong(f"{head} {more}{end}{rest}")

    def test_blanks(self):
        for row in GOOD_ROWS:
            head, end, rest = row.partition("\n")
            for wrong in (" " + head, head + " ", "  " + head, head + "  "):
                self.wrong(wrong + end + rest)
            words = head.split(" ")
            for place in range(1, len(words)):
                self.wrong(" ".join(words[:place]) + "  " + " ".join(words[place:]) + end + rest)

    def test_numbers_that_are_none(self):
        for wrong in BAD_NUMBERS:
            for row in ("shelf {} 2", "shelf 26 {}", "put {} 0 x", "put 0 {} x", "take {} 0", "take 0 {}", "lay {} 0",
                        "lay 0 {}", "list {}", "state {}", "tell {}\n26 2 0"):
                self.wrong(row.format(wrong))

    def test_a_line_end_in_any_row_but_tell(self):
        for row in GOOD_ROWS:
            if not row.startswith("tell"):
                for place in range(len(row) + 1):
                    self.wrong(row[:place] + "\n" + row[place:])
                self.wrong(row + "\n26 2 0")
                self.wrong(row + "\n\n")
                self.wrong(row + "\n" + row)
                self.wrong(row.replace(" ", "\n") + "\n")

    def test_no_line_end_in_tell(self):
        for row in ("tell 0", "tell 1", "tell 9", "tell 0 26 2 0", "tell", "tell\n", "tell\n0", "tell\n0\n26 2 0",
                    "tell \n", "tell 0 \n26 2 0", "tell\n 0\n26 2 0", "\ntell 0\n26 2 0"):
            self.wrong(row)

    def test_against_the_words_of_the_interface(self):
        chance = Random(23)
        desk = told_desk("shelf 5 2")
        good = 0
        for step in range(6000):
            row = chance.choice(GOOD_ROWS)
            for edit in range(chance.choice((1, 1, 2, 3))):
                place = chance.randint(0, len(row))
                cut = place + chance.randint(0, 1)
                row = row[:place] + chance.choice(["", "", " ", "0", "1", "x", "\n", "-", " 0", " 7"]) + row[cut:]
            try:
                desk.say(row)
                answered = True
            except ShelfError as refusal:
                answered = not isinstance(refusal, NoLine)
            self.assertEqual(answered, is_row(row), row)
            good += answered
        self.assertGreater(good, 500)


class Refusals(DeskTest):

    def busy_desk(self):
        return told_desk("shelf 26 3", "put 0 0 x", "lay 1 0", "put 1 1 y", "take 1 0", "renew", "lay 2 1", "lay 2 0")

    def test_no_shelf(self):
        for row in GOOD_ROWS:
            if not row.startswith("shelf"):
                desk = Desk()
                self.refused(NoShelf, desk, row)
                self.refused(NoShelf, desk, row)
        for row in ("list 7", "put 0 0 X", "put 0 9 x", "take 0 0", "tell 0\n?", "tell 9\n", "lay 5 6"):
            self.refused(NoShelf, Desk(), row)

    def test_no_letters(self):
        wrong = ((0, 0), (0, 1), (1, 1), (1, 0), (27, 1), (9999, 1), (26, 0), (2, 2), (26, 26), (26, 9999))
        for letters, hands in wrong:
            self.refused(NoLetters, self.busy_desk(), f"shelf {letters} {hands}", 3)
            desk = Desk()
            self.refused(NoLetters, desk, f"shelf {letters} {hands}")
            self.refused(NoShelf, desk, "renew")

    def test_no_hand_ahead_of_all_else(self):
        desk = self.busy_desk()
        for hand in (3, 4, 26, 100, 9999):
            for row in (f"put {hand} 0 x", f"put {hand} 0 X?", f"put {hand} 99 x", f"put {hand} 99 -", f"take {hand} 0",
                        f"take {hand} 99", f"lay {hand} 0", f"lay 0 {hand}", f"lay {hand} {hand}", f"list {hand}",
                        f"state {hand}", f"tell {hand}\n26 3 0", f"tell {hand}\n", f"tell {hand}\nx\ny",
                        f"tell {hand}\n5 1 0"):
                self.refused(NoHand, desk, row, 3)

    def test_no_things(self):
        desk = self.busy_desk()
        for thing in BAD_THINGS + ["?", "-", "x" * 13, "Atlas", "x.y"]:
            if thing and not set(thing) & set(" \n"):
                for place in (0, 1, 99):
                    self.refused(NoThing, desk, f"put 1 {place} {thing}", 3)

    def test_no_places(self):
        desk = self.busy_desk()
        self.assertEqual([desk.say(f"list {number}").count(" ") for number in range(3)], [1, 1, 1])
        for place in (2, 3, 9999):
            self.refused(NoPlace, desk, f"put 1 {place} x", 3)
        for place in (1, 2, 9999):
            self.refused(NoPlace, desk, f"take 1 {place}", 3)
        self.refused(NoPlace, told_desk("shelf 2 1"), "take 0 0", 1)

    def test_no_states(self):
        desk = self.busy_desk()
        for texts, row in (("", 0), ("x", 0), ("26 3", 0), ("26 3 0\n", 1), ("\n26 3 0", 0), ("26 3 1", 1),
                           ("26 3 0\nb", 1), ("26 3 1\nrenewal 2\nb b", 3), ("26 3 0\nb x\nb y", 2),
                           ("26 3 0\nb x \nc y", 1),
                           ("26 3 0\nb x\n\nc y", 2), ("25 3 0", 0), ("26 2 0", 0), ("5 1 0\nb x", 0),
                           ("26 3 1\nrenewal 0", 0), ("26 3 2\nrenewal 0\nrenewal 0\nb x", 0)):
            for number in (0, 2):
                self.assertEqual(self.refused(NoState, desk, f"tell {number}\n{texts}", 3).row, row)

    def test_states_of_other_renewals_laid(self):
        desk = told_desk("shelf 26 2", "tell 1\n26 2 1\nrenewal 0", "put 0 0 x", "renew")
        self.assertEqual(self.refused(NoState, desk, "lay 0 1", 2).row, 0)
        self.assertEqual(self.refused(NoState, desk, "lay 1 0", 2).row, 0)


if __name__ == "__main__":
    unittest.main()
