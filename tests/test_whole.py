"""What is promised over the whole program, of hands that mark apart and lay together [3, 15]."""

import unittest
from itertools import combinations

from shelfmark.between import mark_between
from shelfmark.desk import Desk
from shelfmark.told import read_state, state_texts
from tests.at_work import Work, all_of, same_hand, states_at_work
from tests.written_out import is_own

WORKS = [(letters, hands, seed) for letters, hands in ((2, 1), (3, 2), (4, 3), (5, 2), (26, 2), (26, 25))
         for seed in range(6)]


class Watch:
    """What any shelf ever showed, to hold all that is shown later against it."""

    def __init__(self, test):
        self.test = test
        self.behind = {}
        self.mark_at = {}
        self.thing_at = {}

    def look(self, hand):
        """Orders that were shown are kept, and of one age a thing has one mark and a mark one thing."""
        things = hand.things()
        for ahead, behind in combinations(things, 2):
            self.test.assertNotIn(ahead, self.behind.get(behind, ()))
            self.behind.setdefault(ahead, set()).add(behind)
        for mark, thing in hand.state()[3]:
            key = hand.age()
            self.test.assertEqual(self.mark_at.setdefault((key, thing), mark), mark)
            self.test.assertEqual(self.thing_at.setdefault((key, mark), thing), thing)


class AtWork(unittest.TestCase):

    def agree(self, work):
        """All hands show the same, and that is what was put and not taken."""
        states = [hand.state() for hand in work.hands]
        self.assertEqual([state for state in states if state != states[0]], [])
        deeds = work.deeds[0]
        put = {deed[1] for deed in deeds if deed[0] == "put"}
        taken = {deed[1] for deed in deeds if deed[0] == "take"}
        for hand in work.hands:
            self.assertEqual(sorted(hand.things()), sorted(put - taken))
            self.assertEqual(hand.marks(), sorted(set(hand.marks())))
            self.assertEqual(len(hand.marks()), len(hand.things()))

    def test_orders_are_kept_and_marks_are_each_hands_own(self):
        for letters, hands, seed in WORKS:
            with self.subTest(letters=letters, hands=hands, seed=seed):
                work = Work(letters, hands, seed)
                watch = Watch(self)
                made = set()
                for step in range(100):
                    put = work.step()
                    if put:
                        number, age, mark, thing = put
                        self.assertNotIn((age, mark), made)
                        self.assertTrue(is_own(hands, number, mark))
                        made.add((age, mark))
                    for hand in work.hands:
                        watch.look(hand)
                work.all_to_all()
                for hand in work.hands:
                    watch.look(hand)
                self.agree(work)

    def test_who_knows_the_same_deeds_shows_the_same(self):
        met = 0
        for letters, hands, seed in WORKS:
            work = Work(letters, hands, seed + 100)
            for step in range(120):
                work.step()
                for one, other in combinations(range(hands), 2):
                    if work.deeds[one] == work.deeds[other]:
                        met += bool(work.deeds[one])
                        self.assertEqual(work.hands[one].state(), work.hands[other].state())
        self.assertGreater(met, 200)

    def test_whatever_way_all_is_laid_together(self):
        for letters, hands, seed in WORKS:
            work = Work(letters, hands, seed + 200)
            work.steps(60)
            states = [hand.state() for hand in work.hands]
            work.all_to_all()
            self.agree(work)
            whole = work.hands[0].state()
            for step in range(8):
                work.chance.shuffle(states)
                for number in range(hands):
                    hand = all_of(letters, hands)[number]
                    for state in states + states[:2]:
                        hand.lay(read_state(state_texts(state)))
                    self.assertEqual(hand.state(), whole)
                    self.assertEqual(hand.number(), number)

    def test_once_more_changes_nothing(self):
        for letters, hands, seed in WORKS:
            earlier = states_at_work(letters, hands, seed + 300, 40)[::hands + 1]
            work = Work(letters, hands, seed + 300)
            work.steps(40)
            work.all_to_all()
            for hand in work.hands:
                whole = hand.state()
                for state in earlier:
                    hand.lay(state)
                    self.assertEqual(hand.state(), whole)

    def test_what_was_put_between_two_stands_between_them(self):
        for letters, hands, seed in WORKS:
            work = Work(letters, hands, seed + 400)
            between = []
            for step in range(80):
                put = work.step()
                if put:
                    things = work.hands[put[0]].things()
                    place = things.index(put[3])
                    between += [(ahead, put[3], behind) for ahead in things[:place] for behind in things[place + 1:]]
                for hand in work.hands:
                    places = {thing: place for place, thing in enumerate(hand.things())}
                    for three in between:
                        if all(thing in places for thing in three):
                            self.assertTrue(places[three[0]] < places[three[1]] < places[three[2]])


class EveryRowOfDeeds(unittest.TestCase):

    def deeds(self, hands):
        """All that can be done next, each as a call of a list of hands."""
        calls = [lambda them: them[0].renew()]
        for number, hand in enumerate(hands):
            many = len(hand.marks())
            calls += [lambda them, n=number, p=place: them[n].put(p, f"t{self.many}")
                      for place in range(many + 1)]
            calls += [lambda them, n=number, p=place: them[n].take(p) for place in range(many)]
            calls.append(lambda them, n=number: them[n].lay(them[1 - n].state()))
        return calls

    def follow(self, hands, depth):
        """Do each row of so many deeds, and behind each lay all together, either way about."""
        one, other = [same_hand(hand) for hand in hands]
        one.lay(hands[1].state())
        other.lay(hands[0].state())
        self.assertEqual(one.state(), other.state())
        for hand in hands:
            shown = [thing for thing in hand.things() if thing in one.things()]
            self.assertEqual(shown, [thing for thing in one.things() if thing in hand.things()])
        self.many += 1
        if depth:
            for deed in self.deeds(hands):
                them = [same_hand(hand) for hand in hands]
                deed(them)
                self.follow(them, depth - 1)

    def test_two_hands(self):
        self.many = 0
        self.follow(all_of(3, 2), 4)
        hands = all_of(4, 2)
        hands[0].put(0, "x")
        hands[0].put(1, "y")
        hands[1].lay(hands[0].state())
        self.follow(hands, 3)
        self.assertGreater(self.many, 3000)


class Lengths(unittest.TestCase):

    def test_a_made_mark_has_at_most_one_letter_more(self):
        for letters, hands, seed in WORKS:
            work = Work(letters, hands, seed + 500)
            for step in range(100):
                before = [hand.state()[3] for hand in work.hands]
                put = work.step()
                if put:
                    number, age, mark, thing = put
                    known = [old for old, other in before[number]]
                    low = max([old for old in known if old < mark], default=None)
                    high = min([old for old in known if old > mark], default=None)
                    self.assertLessEqual(len(mark), 1 + max(len(low or ""), len(high or "")))

    def test_a_hand_alone_between_what_it_shows(self):
        hand = all_of(26, 25)[24]
        marks = []
        for step in range(100):
            place = step * 7 % (step + 1)
            low = marks[place - 1] if place else None
            high = marks[place] if place < step else None
            marks.insert(place, hand.put(place, "x"))
            self.assertEqual(marks[place], mark_between(26, 25, 24, low, high))
        self.assertEqual(hand.marks(), marks)


class AtTheDesk(unittest.TestCase):

    def test_hands_come_together(self):
        for letters, count in ((3, 2), (6, 5)):
            desk = Desk()
            desk.say(f"shelf {letters} {count}")
            for step in range(60):
                number = step * step % count
                shown = desk.say(f"list {number}")
                many = len(shown.split("\n")) if shown else 0
                desk.say(f"put {number} {step % (many + 1)} t{step}")
                if step % 4 == 3 and many:
                    desk.say(f"take {number} {step % many}")
                if step % 5 == 4:
                    desk.say(f"lay {number} {(number + step) % count}")
                if step % 13 == 12:
                    desk.say("renew")
            for turn in range(2):
                for number in range(count):
                    desk.say(f"tell {(number + 1) % count}\n" + desk.say(f"state {number}"))
            self.assertEqual(len({desk.say(f"state {number}") for number in range(count)}), 1)
            self.assertEqual(len({desk.say(f"list {number}") for number in range(count)}), 1)


if __name__ == "__main__":
    unittest.main()
