"""States told as texts, and read from them [22].

Texts are read one behind the other, so the place of one that is lacking is how many there are.
"""

from shelfmark.errors import NoLetters, NoState
from shelfmark.letters import ask_letters, is_mark
from shelfmark.states import HANDS, LETTERS, RENEWALS, TAKEN, THINGS
from shelfmark.things import is_thing
from shelfmark.words import is_number

MOST_RENEWALS = 1000
MOST_ROWS = 1000


def row_texts(rows):
    """The texts of a renewal's rows."""
    return [f"{old} -" if new is None else f"{old} {new}" for old, new in rows]


def renewal_texts(rows):
    """The texts of a renewal."""
    many = len(rows)
    return [f"renewal {many}"] + row_texts(rows)


def thing_texts(things, taken):
    """The texts of things with marks, of which the taken ones are told too."""
    gone = dict([(mark, True) for mark in taken])
    return [f"{mark} {thing} taken" if mark in gone else f"{mark} {thing}" for mark, thing in things]


def state_texts(state):
    """The texts that tell a state."""
    letters = state[LETTERS]
    hands = state[HANDS]
    age = len(state[RENEWALS])
    texts = [f"{letters} {hands} {age}"]
    for rows in state[RENEWALS]:
        texts.extend(renewal_texts(rows))
    return texts + thing_texts(state[THINGS], state[TAKEN])


def ask_text(good, place):
    """Refuse the text at a place, where it is not as told."""
    if not good:
        raise NoState(place)


def words_at(texts, place):
    """The words of the text at a place, none where it is lacking."""
    return texts[place].split(" ") if place < len(texts) else []


def is_number_to(word, most):
    """Whether the word is a number of at most so much."""
    return is_number(word) and int(word) <= most


def is_mark_behind(letters, last, word):
    """Whether the word is a mark that comes behind the last one; the text without signs is ahead of all."""
    return is_mark(letters, word) and last < word


def read_head(texts):
    """The list of letters, hands and age, from the first text."""
    words = words_at(texts, 0)
    ask_text(len(words) == 3 and all([is_number(word) for word in words]), 0)
    numbers = [int(word) for word in words]
    try:
        ask_letters(numbers[0], numbers[1])
    except NoLetters:
        raise NoState(0) from None
    ask_text(numbers[2] <= MOST_RENEWALS, 0)
    return numbers


def read_many(texts, place):
    """How many rows a renewal has, from the text at a place."""
    words = words_at(texts, place)
    ask_text(len(words) == 2 and words[0] == "renewal" and is_number_to(words[1], MOST_ROWS), place)
    return int(words[1])


def read_rows(letters, texts, place, many):
    """So many rows of a renewal, from the texts from a place on."""
    rows = []
    last_old = ""
    last_new = ""
    for here in range(place, place + many):
        words = words_at(texts, here)
        ask_text(len(words) == 2 and is_mark_behind(letters, last_old, words[0]), here)
        last_old = words[0]
        if words[1] == "-":
            rows.append((words[0], None))
        else:
            ask_text(is_mark_behind(letters, last_new, words[1]), here)
            last_new = words[1]
            rows.append((words[0], words[1]))
    return rows


def read_things(letters, texts, place):
    """The words of each thing's text, from a place to the end: mark, thing and perhaps taken."""
    rows = []
    last = ""
    for here in range(place, len(texts)):
        words = words_at(texts, here)
        ask_text(len(words) == 2 or words[2:] == ["taken"], here)
        ask_text(is_mark_behind(letters, last, words[0]) and is_thing(words[1]), here)
        last = words[0]
        rows.append(words)
    return rows


def read_state(texts):
    """The state that these texts tell."""
    numbers = read_head(texts)
    renewals = []
    place = 1
    for step in range(numbers[2]):
        many = read_many(texts, place)
        renewals.append(read_rows(numbers[0], texts, place + 1, many))
        place = place + 1 + many
    rows = read_things(numbers[0], texts, place)
    things = [(words[0], words[1]) for words in rows]
    taken = [words[0] for words in rows if len(words) == 3]
    return (numbers[0], numbers[1], renewals, things, taken)
