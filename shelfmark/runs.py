"""Runs of marks put at once, and renewed marks [9, 10]."""

from shelfmark.between import least_long
from shelfmark.letters import mark_of, power
from shelfmark.rooms import nth_mark, room_at


def spread(many, whole):
    """So many numbers from 1 to whole - 1, as evenly apart as whole numbers can be told."""
    return [(k + 1) * whole // (many + 1) for k in range(many)]


def run_between(letters, hands, hand, low, high, many):
    """So many marks of the hand between low and high, rising, all of the least length with room for them."""
    long = least_long(letters, hands, hand, low, high, many)
    room = room_at(letters, hands, hand, low, high, long)
    # Spread counts from 1, the marks that lie between from 0.
    numbers = spread(many, room + 1)
    return [nth_mark(letters, hands, hand, low, high, long, number - 1) for number in numbers]


def renewed_long(letters, many):
    """The least length up to which there are so many marks."""
    long = 0
    texts = 1
    # Of the texts of one length, the a's at their ends left out, all but one are marks.
    while texts - 1 < many:
        texts = texts * letters
        long = long + 1
    return long


def renewed(letters, many):
    """The renewed marks of so many, rising."""
    long = renewed_long(letters, many)
    return [mark_of(letters, number, long) for number in spread(many, power(letters, long))]
