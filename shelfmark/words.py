"""Numbers in rows of words [22, 23]."""

FIGURES = "0123456789"
MOST_FIGURES = 4


def is_number(word):
    """Whether the word is one to four figures without a nought ahead, but 0 itself."""
    if word == "" or len(word) > MOST_FIGURES:
        return False
    if word.startswith("0"):
        return word == "0"
    return all([sign in FIGURES for sign in word])
