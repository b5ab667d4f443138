"""A hand's ends, and how many of its marks of one length lie between two marks [6, 7].

A mark of just so many letters is its whole at that length, so those between low and high
are the numbers between two bounds whose last figure is one of the hand's ends.
"""

from shelfmark.errors import NoRoom
from shelfmark.letters import SMALL, mark_of, power, whole_of


def ends_of(letters, hands, hand):
    """The letters that the hand's own marks end with, rising."""
    return "".join([SMALL[number] for number in range(1, letters) if (number - 1) % hands == hand])


def ask_room(low, high):
    """Refuse two marks of which low does not come ahead of high."""
    if low is not None and high is not None and low >= high:
        raise NoRoom("low does not come ahead of high")


def high_whole_of(letters, high, long):
    """The whole of high at a length; None stands behind all marks, as 1 does behind all fractions."""
    if high is None:
        return power(letters, long)
    return whole_of(letters, high, long)


def owned_below(letters, ends, number):
    """How many numbers below this one have one of the ends as their last figure."""
    lesser = [end for end in ends if end < SMALL[number % letters]]
    return number // letters * len(ends) + len(lesser)


def owned_up_to_low(letters, ends, low_whole):
    """How many marks of a length, with these ends, low does not come ahead of, by its whole there."""
    return owned_below(letters, ends, low_whole + 1)


def owned_ahead_of_high(letters, ends, high, high_whole, long, beginnings):
    """How many marks of a length, with these ends, come ahead of high, by its whole there.

    Beginnings says whether high's own beginnings are counted too.
    """
    # High's own beginning has the same whole as high there, and yet comes ahead of it.
    if beginnings and high is not None and long < len(high):
        return owned_below(letters, ends, high_whole + 1)
    return owned_below(letters, ends, high_whole)


def counted_at(letters, ends, low, high, long, beginnings):
    """How many marks of just so many letters, with these ends, lie between low and high.

    Without high's beginnings it is -1 where low and high begin with the same mark of that length.
    """
    low_whole = whole_of(letters, low, long)
    high_whole = high_whole_of(letters, high, long)
    ahead = owned_ahead_of_high(letters, ends, high, high_whole, long, beginnings)
    return ahead - owned_up_to_low(letters, ends, low_whole)


def room_at(letters, hands, hand, low, high, long):
    """How many of the hand's marks of just so many letters lie between low and high."""
    ask_room(low, high)
    return counted_at(letters, ends_of(letters, hands, hand), low, high, long, True)


def nth_mark(letters, hands, hand, low, high, long, number):
    """The mark of this number, from 0 on, of those that room_at counts."""
    ask_room(low, high)
    ends = ends_of(letters, hands, hand)
    low_whole = whole_of(letters, low, long)
    place = owned_up_to_low(letters, ends, low_whole) + number
    last = SMALL.index(ends[place % len(ends)])
    return mark_of(letters, place // len(ends) * letters + last, long)
