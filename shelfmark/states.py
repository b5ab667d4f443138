"""What a state is: a tuple (letters, hands, renewals, things, taken) [20]."""

LETTERS = 0
HANDS = 1
RENEWALS = 2
THINGS = 3
TAKEN = 4


def state_of(letters, hands, renewals, things, taken):
    """The state of these; all its lists are new ones, each renewal's rows too."""
    return (letters, hands, [list(rows) for rows in renewals], list(things), list(taken))
