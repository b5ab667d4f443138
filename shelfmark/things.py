"""What a thing is, and what is refused where things are put in or taken out [11, 12]."""

from shelfmark.errors import NoPlace, NoThing

THING_SIGNS = "abcdefghijklmnopqrstuvwxyz0123456789"
LONGEST_THING = 12


def is_thing(text):
    """Whether the text is a thing."""
    if text == "" or len(text) > LONGEST_THING:
        return False
    return all([sign in THING_SIGNS for sign in text])


def ask_thing(text):
    """Refuse what is no thing."""
    if not is_thing(text):
        raise NoThing("a thing has 1 to 12 signs, each a small letter or a figure")


def ask_place(place, many):
    """Refuse a place that is none of so many, numbered from 0."""
    # The words leave the number out: Python writes no number of some thousand figures.
    if place < 0 or place >= many:
        raise NoPlace("there is no such place")
