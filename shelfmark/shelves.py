"""A shelf that one hand alone marks [11, 12]."""

from shelfmark.between import mark_between
from shelfmark.errors import NoThing
from shelfmark.letters import ask_letters
from shelfmark.runs import renewed, run_between
from shelfmark.things import ask_place, ask_thing

MOST_THINGS = 300


class Shelf:
    """Things in an order, each with its mark; a shelf of one hand, whose number is 0."""

    def __init__(self, letters):
        ask_letters(letters, 1)
        self.letters = letters
        self.mark_row = []
        self.thing_row = []

    def put(self, place, thing):
        """Put a thing in at a place; its mark."""
        self.ask_things([thing])
        ask_place(place, len(self.thing_row) + 1)
        mark = mark_between(self.letters, 1, 0, self.mark_ahead(place), self.mark_at(place))
        self.stand_in(place, [mark], [thing])
        return mark

    def put_row(self, place, things):
        """Put a row of things in at a place, at once; the list of their marks."""
        self.ask_things(things)
        ask_place(place, len(self.thing_row) + 1)
        run = run_between(self.letters, 1, 0, self.mark_ahead(place), self.mark_at(place), len(things))
        self.stand_in(place, run, things)
        return run

    def take(self, place):
        """Take out what stands at a place; the thing."""
        ask_place(place, len(self.thing_row))
        self.mark_row.pop(place)
        return self.thing_row.pop(place)

    def renew(self):
        """Give all things the renewed marks; the list of these."""
        self.mark_row = renewed(self.letters, len(self.thing_row))
        return self.marks()

    def marks(self):
        """The marks, in their order."""
        return list(self.mark_row)

    def things(self):
        """The things, in their order."""
        return list(self.thing_row)

    def longest(self):
        """How many letters the longest mark has, 0 of none."""
        return max([len(mark) for mark in self.mark_row], default=0)

    def ask_things(self, things):
        """Refuse a row of things that can't be put in, whatever the place."""
        if len(things) == 0:
            raise NoThing("a row of things has one or more")
        for thing in things:
            ask_thing(thing)
        if len(self.thing_row) + len(things) > MOST_THINGS:
            raise NoThing("a shelf has at most 300 things")

    def mark_ahead(self, place):
        """The mark of the thing ahead of a place, None where there is none."""
        # Python would take the place -1 for the last one.
        return self.mark_row[place - 1] if place > 0 else None

    def mark_at(self, place):
        """The mark of the thing at a place, None where there is none."""
        return self.mark_row[place] if place < len(self.mark_row) else None

    def stand_in(self, place, marks, things):
        """Set marks and things in at a place, those from there on going on."""
        self.mark_row = self.mark_row[:place] + marks + self.mark_row[place:]
        self.thing_row = self.thing_row[:place] + list(things) + self.thing_row[place:]
