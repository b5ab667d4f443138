"""Letters and marks, and marks read as whole numbers [4, 5]."""

from shelfmark.errors import NoLetters

SMALL = "abcdefghijklmnopqrstuvwxyz"


def ask_letters(letters, hands):
    """Refuse a shelf of so many letters and hands, where there is none."""
    # The words leave the numbers out: Python writes no number of some thousand figures.
    if letters < 2 or letters > len(SMALL):
        raise NoLetters("letters must be from 2 to 26")
    if hands < 1 or hands >= letters:
        raise NoLetters("hands must be from 1 to one less than letters")


def is_mark(letters, text):
    """Whether the text is a mark of so many letters."""
    if text == "" or text.endswith("a"):
        return False
    return all([sign in SMALL[:letters] for sign in text])


def power(letters, long):
    """How many texts of just this length there are of so many letters."""
    product = 1
    for step in range(long):
        product = product * letters
    return product


def figure_at(mark, place):
    """The number of the mark's letter at a place; behind its end, and for None, 0."""
    if mark is None or place >= len(mark):
        return 0
    return SMALL.index(mark[place])


def whole_of(letters, mark, long):
    """The whole of a mark at a length; None has no letters, so its whole is 0."""
    whole = 0
    for place in range(long):
        whole = whole * letters + figure_at(mark, place)
    return whole


def mark_of(letters, number, long):
    """The mark that is told to a number from 1 to one less than power(letters, long)."""
    text = ""
    rest = number
    for step in range(long):
        text = SMALL[rest % letters] + text
        rest = rest // letters
    return text.rstrip("a")
