"""A desk, where the hands of a shelf are told what to do in rows of words [23]."""

from shelfmark.errors import NoLine, NoShelf
from shelfmark.hands import Hand, ask_hand
from shelfmark.letters import ask_letters
from shelfmark.told import read_state, row_texts, state_texts
from shelfmark.words import is_number

FORMS = {
    "shelf": ("LETTERS", "HANDS"),
    "put": ("HAND", "PLACE", "THING"),
    "take": ("HAND", "PLACE"),
    "lay": ("HAND", "HAND"),
    "renew": (),
    "list": ("HAND",),
    "state": ("HAND",),
    "tell": ("HAND",),
}


def is_of_kind(kind, word):
    """Whether the word is one of its kind."""
    # Any word may stand for a thing here: whether it is one, the hand says.
    return word != "" if kind == "THING" else is_number(word)


def ask_line(words, texts):
    """Refuse a row that is none: its first line has these words, and these texts stand behind that."""
    kinds = FORMS.get(words[0])
    if kinds is None or len(words) != 1 + len(kinds):
        raise NoLine("there is no such row")
    if not all([is_of_kind(kind, word) for kind, word in zip(kinds, words[1:])]):
        raise NoLine("a word is none of its kind")
    if (words[0] == "tell") != (len(texts) > 0):
        raise NoLine("texts stand behind tell, and there alone")


def new_hands(letters, hands):
    """All hands of a shelf, new ones."""
    ask_letters(letters, hands)
    return [Hand(letters, hands, number) for number in range(hands)]


def list_text(hand):
    """What a hand shows, as a text."""
    return "\n".join([f"{mark} {thing}" for mark, thing in zip(hand.marks(), hand.things())])


class Desk:
    """The hands of one shelf, none at first."""

    def __init__(self):
        self.all_hands = None

    def say(self, row):
        """Do what the row says; the answer."""
        lines = row.split("\n")
        words = lines[0].split(" ")
        ask_line(words, lines[1:])
        if words[0] == "shelf":
            self.all_hands = new_hands(int(words[1]), int(words[2]))
            return "ok"
        if self.all_hands is None:
            raise NoShelf("there is no shelf yet")
        if words[0] == "renew":
            return "\n".join(row_texts(self.all_hands[0].renew()))
        return self.answer(self.hand_of(words[1]), words, lines[1:])

    def hand_of(self, word):
        """The hand whose number the word is."""
        ask_hand(int(word), len(self.all_hands))
        return self.all_hands[int(word)]

    def answer(self, hand, words, texts):
        """What a hand answers to a row of these words, with these texts behind it."""
        if words[0] == "put":
            return hand.put(int(words[2]), words[3])
        if words[0] == "take":
            return hand.take(int(words[2]))
        if words[0] == "list":
            return list_text(hand)
        if words[0] == "state":
            return "\n".join(state_texts(hand.state()))
        if words[0] == "lay":
            hand.lay(self.hand_of(words[2]).state())
        else:
            hand.lay(read_state(texts))
        return "ok"
