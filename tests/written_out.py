"""Marks written out one by one, straight from the document's words, to hold the program against."""

from itertools import product

SIGNS = "abcdefghijklmnopqrstuvwxyz"


def own_of(letters, hands, hand, long):
    """All marks of just so many letters that are the hand's own, rising."""
    texts = ["".join(signs) for signs in product(SIGNS[:letters], repeat=long)]
    return [text for text in texts if is_own(hands, hand, text)]


def is_own(hands, hand, text):
    end = SIGNS.index(text[-1])
    return end >= 1 and (end - 1) % hands == hand


def up_to(letters, long):
    """All marks of at most so many letters, rising."""
    return sorted(mark for size in range(1, long + 1) for mark in own_of(letters, 1, 0, size))


def lies_between(low, mark, high):
    return (low is None or low < mark) and (high is None or mark < high)


def between(marks, low, high):
    return [mark for mark in marks if lies_between(low, mark, high)]


def pairs(marks):
    """All low and high with room between: marks one ahead of the other, and None for either or both."""
    both = [(low, high) for low in marks for high in marks if low < high]
    lows = [(low, None) for low in marks]
    highs = [(None, high) for high in marks]
    return both + lows + highs + [(None, None)]


def wrong_pairs(marks):
    """All low and high where low is high or comes behind it."""
    return [(low, high) for low in marks for high in marks if low >= high]


def told(low, high, many):
    """The number of the mark that is told by rule."""
    if (low is None) == (high is None):
        return (many - 1) // 2
    return 0 if high is None else many - 1


def all_hands(letters):
    """Each count of hands there may be, with each of their numbers."""
    return [(hands, hand) for hands in range(1, letters) for hand in range(hands)]
