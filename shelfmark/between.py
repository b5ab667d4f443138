"""The mark between two others, as short as any there [8]."""

from shelfmark.letters import figure_at
from shelfmark.rooms import ask_room, ends_of, high_whole_of, nth_mark
from shelfmark.rooms import owned_ahead_of_high, owned_up_to_low, room_at


def least_counted(letters, ends, low, high, many, beginnings):
    """The least length at which counted_at of these finds at least so many."""
    long = 0
    room = 0
    low_whole = 0
    high_whole = high_whole_of(letters, high, 0)
    # The room may shrink from one length to the next, so no length is left out; the wholes
    # are taken on letter by letter, since reading each anew would be slow for long marks.
    while room < many:
        low_whole = low_whole * letters + figure_at(low, long)
        high_whole = high_whole * letters + figure_at(high, long)
        long = long + 1
        ahead = owned_ahead_of_high(letters, ends, high, high_whole, long, beginnings)
        room = ahead - owned_up_to_low(letters, ends, low_whole)
    return long


def least_long(letters, hands, hand, low, high, many):
    """The least length at which the room between low and high is at least so many."""
    ask_room(low, high)
    return least_counted(letters, ends_of(letters, hands, hand), low, high, many, True)


def told_number(low, high, many):
    """Which of so many marks between low and high is told by rule."""
    if high is None and low is not None:
        return 0
    if low is None and high is not None:
        return many - 1
    return (many - 1) // 2


def mark_between(letters, hands, hand, low, high):
    """The mark of the hand between low and high."""
    long = least_long(letters, hands, hand, low, high, 1)
    many = room_at(letters, hands, hand, low, high, long)
    return nth_mark(letters, hands, hand, low, high, long, told_number(low, high, many))
