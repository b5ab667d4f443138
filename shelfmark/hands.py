"""Hands that mark one shelf apart, and lay together what they have [18, 19, 20]."""

from shelfmark.between import mark_between
from shelfmark.errors import NoHand
from shelfmark.letters import ask_letters
from shelfmark.meetings import laid
from shelfmark.renewals import renewal_rows
from shelfmark.states import RENEWALS, TAKEN, THINGS, state_of
from shelfmark.things import ask_place, ask_thing


def ask_hand(number, hands):
    """Refuse a number that none of so many hands has."""
    # The words leave the number out: Python writes no number of some thousand figures.
    if number < 0 or number >= hands:
        raise NoHand("there is no such hand")


class Hand:
    """One of the hands of a shelf, and what it knows."""

    def __init__(self, letters, hands, number):
        ask_letters(letters, hands)
        ask_hand(number, hands)
        self.letters = letters
        self.hands = hands
        self.own_number = number
        self.renewals = []
        # Of all known marks, the taken ones too: none of them may be made again.
        self.thing_of = {}
        self.taken = {}

    def put(self, place, thing):
        """Put a thing in at a place of what is shown; its mark."""
        ask_thing(thing)
        shown = self.marks()
        ask_place(place, len(shown) + 1)
        # Python would take the place -1 for the last one.
        low = shown[place - 1] if place > 0 else None
        mark = mark_between(self.letters, self.hands, self.own_number, low, self.first_behind(low))
        self.thing_of[mark] = thing
        return mark

    def take(self, place):
        """Take out what stands at a place of what is shown; its mark."""
        shown = self.marks()
        ask_place(place, len(shown))
        self.taken[shown[place]] = True
        return shown[place]

    def renew(self):
        """Give all standing things renewed marks, and let the taken ones go; the rows of it."""
        if self.own_number != 0:
            raise NoHand("the hand 0 alone makes renewals")
        known = [(mark, mark not in self.taken) for mark in sorted(self.thing_of)]
        rows = renewal_rows(self.letters, known)
        self.thing_of = dict([(new, self.thing_of[old]) for old, new in rows if new is not None])
        self.taken = {}
        self.renewals.append(rows)
        return list(rows)

    def marks(self):
        """The marks of what is shown, in their order."""
        return [mark for mark in sorted(self.thing_of) if mark not in self.taken]

    def things(self):
        """The things that are shown, in the order of their marks."""
        return [self.thing_of[mark] for mark in self.marks()]

    def age(self):
        """How many renewals are known."""
        return len(self.renewals)

    def number(self):
        """The hand's own number."""
        return self.own_number

    def state(self):
        """All that is known, but the hand's own number."""
        things = sorted(self.thing_of.items())
        return state_of(self.letters, self.hands, self.renewals, things, sorted(self.taken))

    def lay(self, state):
        """Lay a state to the hand's own one."""
        whole = laid(self.state(), state)
        self.renewals = whole[RENEWALS]
        self.thing_of = dict(whole[THINGS])
        self.taken = dict([(mark, True) for mark in whole[TAKEN]])

    def first_behind(self, low):
        """The first known mark behind low, standing or taken, None where there is none."""
        return min([mark for mark in self.thing_of if low is None or low < mark], default=None)
