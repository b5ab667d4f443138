"""States told as texts, and read from them [2, 22]."""

import re
import unittest
from copy import deepcopy
from random import Random

from shelfmark.errors import NoState
from shelfmark.hands import Hand
from shelfmark.told import read_state, state_texts
from tests.at_work import changed_by_the_asker, states_at_work
from tests.inputs import BAD_SIGNS, BAD_THINGS, GOOD_SIGNS
from tests.written_out import SIGNS

STATES_AND_TEXTS = (
    ((2, 1, [], [], []), ["2 1 0"]),
    ((26, 25, [[]], [], []), ["26 25 1", "renewal 0"]),
    ((26, 2, [], [("n", "atlas"), ("nz", "taken"), ("renewal", "3")], []),
     ["26 2 0", "n atlas", "nz taken", "renewal 3"]),
    ((26, 2, [], [("n", "atlas"), ("nz", "taken"), ("renewal", "0")], ["n", "nz"]),
     ["26 2 0", "n atlas taken", "nz taken taken", "renewal 0"]),
    ((26, 1, [], [("renewal", "taken"), ("renewals", "renewal")], ["renewal", "renewals"]),
     ["26 1 0", "renewal taken taken", "renewals renewal taken"]),
    ((3, 2, [[], [("b", "ab"), ("bb", None), ("c", "c")], [("c", None)]], [("b", "0")], ["b"]),
     ["3 2 3", "renewal 0", "renewal 3", "b ab", "bb -", "c c", "renewal 1", "c -", "b 0 taken"]),
    ((26, 3, [[("renewal", "renewal"), ("taken", None)]], [("renewal", "1")], []),
     ["26 3 1", "renewal 2", "renewal renewal", "taken -", "renewal 1"]),
)
GOOD = ["4 3 2", "renewal 3", "b ab", "bb -", "c d", "renewal 1", "c -", "b x", "bb y taken", "d 7"]
BAD_NUMBERS = ["", "00", "01", "010", "-0", "-1", "+1", "1x", "x", "1.", "1_0", "0x1", "1001", "1002", "9999", "10000",
               "1" * 60, "1" * 5000, "-", "1\n", "\n1", "1 ", " 1"]
BAD_NUMBERS += [f"1{sign}" for sign in BAD_SIGNS + list(SIGNS)]


def number_written_out(word, least, most):
    return bool(re.fullmatch("0|[1-9][0-9]{0,9}", word)) and least <= int(word) <= most


def read_written_out(texts):
    """The state that texts tell, or the number of the first one that is not as told."""
    left = list(texts)

    def take(pattern):
        found = re.fullmatch(pattern, left[0]) if left else None
        if not found:
            raise LookupError
        left.pop(0)
        return found.groups()

    try:
        head = re.fullmatch("([^ ]+) ([^ ]+) ([^ ]+)", left[0]) if left else None
        if not (head and number_written_out(head[1], 2, 26) and number_written_out(head[2], 1, int(head[1]) - 1)
                and number_written_out(head[3], 0, 1000)):
            raise LookupError
        left.pop(0)
        mark = f"[{SIGNS[:int(head[1])]}]*[{SIGNS[1:int(head[1])]}]"
        renewals = []
        for step in range(int(head[3])):
            rows = []
            for row in range(int(take("renewal (0|[1-9][0-9]{0,2}|1000)")[0])):
                old, new = take(f"({mark}) ({mark}|-)")
                news = [earlier[1] for earlier in rows if earlier[1] != "-"]
                if (rows and rows[-1][0] >= old) or (news and new != "-" and news[-1] >= new):
                    left.insert(0, "")
                    raise LookupError
                rows.append((old, new))
            renewals.append([(old, None if new == "-" else new) for old, new in rows])
        things = []
        while left:
            things.append(take(f"({mark}) ([a-z0-9]{{1,12}})( taken)?"))
            if things[-1][0] <= max([row[0] for row in things[:-1]], default=""):
                left.insert(0, "")
                raise LookupError
    except LookupError:
        return len(texts) - len(left)
    return (int(head[1]), int(head[2]), renewals, [row[:2] for row in things], [row[0] for row in things if row[2]])


class ToldTest(unittest.TestCase):

    def refused(self, texts, row):
        with self.subTest(texts=[text[:40] for text in texts]):
            handed = list(texts)
            with self.assertRaises(NoState) as caught:
                read_state(texts)
            self.assertEqual(caught.exception.row, row)
            self.assertIs(type(caught.exception.row), int)
            self.assertEqual(texts, handed)

    def read(self, texts, state):
        with self.subTest(texts=texts):
            handed = list(texts)
            told = read_state(texts)
            self.assertEqual(told, state)
            self.assertIs(type(told), tuple)
            self.assertEqual([type(part) for part in told], [int, int, list, list, list])
            self.assertEqual({type(rows) for rows in told[2]} - {list}, set())
            pairs = told[3] + [row for rows in told[2] for row in rows]
            self.assertEqual({type(row) for row in pairs} - {tuple}, set())
            self.assertEqual(texts, handed)

    def in_the_place(self, row, text):
        """The good texts with another one in the place of one of them."""
        return GOOD[:row] + [text] + GOOD[row + 1:]


class Texts(ToldTest):

    def test_known_ones(self):
        for state, texts in STATES_AND_TEXTS:
            with self.subTest(texts=texts):
                handed = deepcopy(state)
                told = state_texts(state)
                self.assertEqual(told, texts)
                self.assertIs(type(told), list)
                self.assertEqual(state, handed)

    def test_a_list_of_the_askers_own(self):
        for state, texts in STATES_AND_TEXTS:
            state = deepcopy(state)
            told = state_texts(state)
            state_texts(state).clear()
            changed_by_the_asker(state)
            self.assertEqual(told, texts)

    def test_of_hands(self):
        hand = Hand(26, 2, 0)
        self.assertEqual(state_texts(hand.state()), ["26 2 0"])
        hand.put(0, "atlas")
        hand.put(1, "bible")
        hand.take(0)
        self.assertEqual(state_texts(hand.state()), ["26 2 0", "n atlas taken", "p bible"])
        hand.renew()
        self.assertEqual(state_texts(hand.state()), ["26 2 1", "renewal 2", "n -", "p n", "n bible"])


class Read(ToldTest):

    def test_known_ones(self):
        for state, texts in STATES_AND_TEXTS:
            self.read(texts, state)

    def test_what_hands_tell(self):
        for letters, hands in ((2, 1), (3, 2), (26, 1), (26, 5), (26, 25)):
            for state in states_at_work(letters, hands, letters + hands, 40):
                self.read(state_texts(state), state)

    def test_the_good_one(self):
        renewals = [[("b", "ab"), ("bb", None), ("c", "d")], [("c", None)]]
        self.read(GOOD, (4, 3, renewals, [("b", "x"), ("bb", "y"), ("d", "7")], ["bb"]))

    def test_the_ends_of_the_bounds(self):
        for letters in range(2, 27):
            last = SIGNS[letters - 1]
            for hands in (1, letters - 1):
                self.read([f"{letters} {hands} 0", f"{last} x"], (letters, hands, [], [(last, "x")], []))
        self.read(["2 1 1000"] + ["renewal 0"] * 1000 + ["b x"], (2, 1, [[]] * 1000, [("b", "x")], []))
        marks = ["b" * long for long in range(1, 1001)]
        rows = [(mark, mark) for mark in marks]
        self.read(["2 1 1", "renewal 1000"] + [f"{mark} {mark}" for mark in marks], (2, 1, [rows], [], []))
        self.read(["2 1 0"] + [f"{mark} x" for mark in marks], (2, 1, [], [(mark, "x") for mark in marks], []))

    def test_all_that_a_thing_may_be(self):
        for thing in list(GOOD_SIGNS) + ["x" * 12, "0" * 12, "00", "taken", "renewal"]:
            self.read(["2 1 0", f"b {thing}"], (2, 1, [], [("b", thing)], []))
            self.read(["2 1 0", f"b {thing} taken"], (2, 1, [], [("b", thing)], ["b"]))

    def test_new_marks_rise_past_those_let_go(self):
        self.read(["3 1 1", "renewal 3", "b b", "bb -", "c c"],
                  (3, 1, [[("b", "b"), ("bb", None), ("c", "c")]], [], []))

    def test_each_renewal_begins_anew(self):
        self.read(["2 1 2", "renewal 1", "b b", "renewal 1", "ab ab", "aab x"],
                  (2, 1, [[("b", "b")], [("ab", "ab")]], [("aab", "x")], []))

    def test_a_state_of_the_askers_own(self):
        texts = list(GOOD)
        told = read_state(texts)
        kept = deepcopy(told)
        texts.reverse()
        self.assertEqual(told, kept)
        changed_by_the_asker(told)
        self.assertEqual(read_state(GOOD), kept)

    def test_a_thousand_renewals_of_three_hundred_marks(self):
        hand = Hand(26, 2, 0)
        for place in range(300):
            hand.put(place, f"t{place}")
        for step in range(1000):
            hand.renew()
        texts = state_texts(hand.state())
        self.assertEqual(len(texts), 1 + 1000 * 301 + 300)
        self.assertEqual(read_state(texts), hand.state())


class NotRead(ToldTest):

    def test_none_at_all(self):
        self.refused([], 0)

    def test_one_lacking(self):
        for many in range(7):
            self.refused(GOOD[:many], many)
        for many in range(7, 11):
            self.assertEqual(len(read_state(GOOD[:many])[3]), many - 7)

    def test_words_too_few_or_too_many(self):
        for row, text in enumerate(GOOD):
            words = text.split(" ")
            self.refused(self.in_the_place(row, ""), row)
            self.refused(self.in_the_place(row, words[0]), row)
            self.refused(self.in_the_place(row, text + " x"), row)
            self.refused(self.in_the_place(row, text + " taken taken"), row)
        for row in range(7):
            self.refused(self.in_the_place(row, GOOD[row] + " taken"), row)
        self.refused(self.in_the_place(0, "4 3"), 0)
        self.refused(self.in_the_place(0, "4 3 2 0"), 0)

    def test_blanks(self):
        for row, text in enumerate(GOOD):
            for wrong in (" " + text, text + " ", text.replace(" ", "  "), text + "\n", "\n" + text,
                          text.replace(" ", "\n"), text.replace(" ", "\n "), text.replace(" ", ""), " ", "  ", "   "):
                self.refused(self.in_the_place(row, wrong), row)

    def test_letters(self):
        for wrong in BAD_NUMBERS + ["0", "1", "27", "28", "100", "1000"]:
            self.refused([f"{wrong} 1 0"], 0)

    def test_hands(self):
        for wrong in BAD_NUMBERS + ["0", "4", "5", "26"]:
            self.refused([f"4 {wrong} 0"], 0)
        for letters in range(2, 27):
            self.refused([f"{letters} 0 0"], 0)
            self.refused([f"{letters} {letters} 0"], 0)

    def test_age(self):
        for wrong in BAD_NUMBERS:
            self.refused([f"4 3 {wrong}"] + ["renewal 0"] * 1002, 0)
        self.refused(["4 3 0", "renewal 0"], 1)
        self.refused(["4 3 1", "renewal 0", "renewal 0"], 2)
        self.refused(["4 3 2", "renewal 0"], 2)

    def test_many(self):
        for wrong in BAD_NUMBERS:
            self.refused(["4 3 1", f"renewal {wrong}"], 1)
        for wrong in ("renewed 0", "Renewal 0", "renewals 0", "0 renewal", "0", "b x"):
            self.refused(["4 3 1", wrong], 1)
        marks = ["b" * long for long in range(1, 1002)]
        self.refused(["2 1 1", "renewal 1001"] + [f"{mark} -" for mark in marks], 1)

    def test_no_marks(self):
        for wrong in ("", "a", "ba", "e", "be", "eb", "B", "bB", "1", "b1", "-", "b-", "b\n", "\nb", "_"):
            for row in (2, 3, 4, 6):
                old, new = GOOD[row].split(" ")
                self.refused(self.in_the_place(row, f"{wrong} {new}"), row)
                if wrong != "-":
                    self.refused(self.in_the_place(row, f"{old} {wrong}"), row)
            for row in (7, 8, 9):
                thing = GOOD[row].split(" ", 1)[1]
                self.refused(self.in_the_place(row, f"{wrong} {thing}"), row)

    def test_marks_of_more_letters(self):
        for letters in range(2, 26):
            beyond = SIGNS[letters]
            self.refused([f"{letters} 1 0", f"{beyond} x"], 1)
            self.refused([f"{letters} 1 0", f"{beyond}b x"], 1)
            self.refused([f"{letters} 1 1", "renewal 1", f"{beyond} b"], 2)
            self.refused([f"{letters} 1 1", "renewal 1", f"b {beyond}"], 2)

    def test_marks_that_do_not_rise(self):
        for row, text in ((3, "b -"), (3, "ab -"), (4, "bb d"), (4, "b d"), (4, "bab d")):
            self.refused(self.in_the_place(row, text), row)
        for row, text in ((8, "b y"), (8, "ad y taken"), (9, "bb x"), (9, "b 7"), (9, "bab 7")):
            self.refused(self.in_the_place(row, text), row)

    def test_new_marks_that_do_not_rise(self):
        for row, text in ((3, "bb ab"), (3, "bb aad"), (4, "c ab"), (4, "c aab")):
            self.refused(self.in_the_place(row, text), row)
        self.refused(["3 1 1", "renewal 3", "b c", "bb -", "c b"], 4)

    def test_no_things(self):
        for wrong in BAD_THINGS + BAD_SIGNS:
            self.refused(["4 3 0", f"b {wrong}"], 1)
            self.refused(["4 3 0", f"b {wrong} taken"], 1)
            self.refused(["4 3 0", "b x", f"c {wrong}"], 2)

    def test_a_word_unlike_taken(self):
        for wrong in ("Taken", "taken.", "take", "token", "x", "", "-", "taken\n", "b"):
            self.refused(["4 3 0", "b x", f"c y {wrong}"], 2)

    def test_the_first_wrong_one_counts(self):
        for first in range(len(GOOD)):
            for later in range(first + 1, len(GOOD)):
                texts = list(GOOD)
                texts[first] = "?"
                texts[later] = "? ?"
                self.refused(texts, first)

    def test_against_the_words_of_the_document(self):
        chance = Random(22)
        known = [list(GOOD)] + [texts for state, texts in STATES_AND_TEXTS]
        known += [state_texts(state) for state in states_at_work(5, 3, 2, 30)[::9]]
        signs = "  abcdez019-\ntn"
        good = 0
        for step in range(6000):
            texts = list(chance.choice(known))
            for edit in range(chance.choice((1, 1, 1, 2, 3))):
                row = chance.randrange(len(texts)) if texts else 0
                deed = chance.randrange(7) if texts else 3
                place = chance.randint(0, len(texts[row])) if texts else 0
                if deed == 0:
                    texts.pop(row)
                elif deed == 1:
                    texts.insert(row, chance.choice(texts))
                elif deed == 2:
                    texts[row] = chance.choice(texts)
                elif deed == 3:
                    texts.insert(row, chance.choice(("b -", "b x taken", "renewal 1", "")))
                else:
                    cut = place + (deed == 5)
                    middle = "" if deed == 6 else chance.choice(signs)
                    texts[row] = texts[row][:place] + middle + texts[row][cut + (deed == 6):]
            answer = read_written_out(texts)
            if type(answer) is int:
                self.refused(texts, answer)
            else:
                good += 1
                self.read(texts, answer)
        self.assertGreater(good, 500)


if __name__ == "__main__":
    unittest.main()
