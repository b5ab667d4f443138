"""States laid together [21]."""

from shelfmark.errors import NoState
from shelfmark.renewals import carried_knowing
from shelfmark.states import HANDS, LETTERS, RENEWALS, TAKEN, THINGS, state_of


def ask_meeting(fewer, more):
    """Refuse states that can't be laid together; fewer has no more renewals than more."""
    shared = more[RENEWALS][:len(fewer[RENEWALS])]
    if fewer[LETTERS] != more[LETTERS] or fewer[HANDS] != more[HANDS] or fewer[RENEWALS] != shared:
        raise NoState(0)


def carried_by_all(letters, renewals, mark, stems):
    """What a mark is carried to by these renewals, one by one, None where one lets it go."""
    reached = mark
    for rows in renewals:
        if reached is None:
            return None
        reached = carried_knowing(letters, rows, reached, stems)
    return reached


def carried_marks(state, renewals):
    """A dict from each mark of a state to what these renewals carry it to."""
    stems = {}
    reached = {}
    marks = [mark for mark, thing in state[THINGS]] + state[TAKEN]
    for mark in sorted(set(marks)):
        reached[mark] = carried_by_all(state[LETTERS], renewals, mark, stems)
    return reached


def all_things(one, other):
    """The things with marks that either list has, rising by mark."""
    thing_of = {}
    for mark, thing in one + other:
        # Unlike things of one mark come of no hands; the lesser one, so that either way about it is the same.
        thing_of[mark] = min(thing, thing_of.get(mark, thing))
    return sorted(thing_of.items())


def laid(one, other):
    """The state that two make when laid together, the same one either way about."""
    if len(one[RENEWALS]) > len(other[RENEWALS]):
        return laid(other, one)
    ask_meeting(one, other)
    reached = carried_marks(one, other[RENEWALS][len(one[RENEWALS]):])
    things = [(reached[mark], thing) for mark, thing in one[THINGS] if reached[mark] is not None]
    taken = [reached[mark] for mark in one[TAKEN] if reached[mark] is not None]
    return state_of(other[LETTERS], other[HANDS], other[RENEWALS],
                    all_things(things, other[THINGS]), sorted(set(taken + other[TAKEN])))
