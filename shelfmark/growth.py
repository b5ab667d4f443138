"""How long marks grow on a shelf of one hand [13, 14]."""


def halves(letters):
    """How many times so many letters can be halved: f, the greatest number with 2 ** f at most letters."""
    return letters.bit_length() - 1


def most_long(letters, many):
    """The most letters that a mark has behind so many puttings of single things and no other deed."""
    if many < 2:
        return many
    return 2 + (many - 2) // halves(letters)


def end_long(letters, short, number):
    """The length of the number-th mark put at one end, where behind the first one so many have 1 letter."""
    if number <= 1 + short:
        return 1
    return 2 + (number - 2 - short) // (letters - 1)


def last_long(letters, number):
    """The length of the number-th mark, from 1 on, where each is put behind the last one."""
    return end_long(letters, (letters - 1) // 2, number)


def first_long(letters, number):
    """The length of the number-th mark, from 1 on, where each is put ahead of the first one."""
    return end_long(letters, (letters - 2) // 2, number)
