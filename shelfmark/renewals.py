"""Renewals told, and marks carried by them [16, 17]."""

from shelfmark.between import least_counted
from shelfmark.rooms import ask_room, counted_at, ends_of, nth_mark
from shelfmark.runs import renewed


def renewal_rows(letters, known):
    """The rows (old, new) of a renewal of known marks (mark, stands), new being None for one let go."""
    fresh = renewed(letters, len([mark for mark, stands in known if stands]))
    rows = []
    given = 0
    for mark, stands in known:
        if stands:
            rows.append((mark, fresh[given]))
            given = given + 1
        else:
            rows.append((mark, None))
    return rows


def stem_between(letters, low, high):
    """The stem between low and high: whatever letters stand behind it, it stays between them."""
    ask_room(low, high)
    # A beginning of high is no stem, since with more letters behind it may come behind high.
    ends = ends_of(letters, 1, 0)
    long = least_counted(letters, ends, low, high, 1, False)
    many = counted_at(letters, ends, low, high, long, False)
    # Of the marks of a length high's beginning is the last one, so it takes none's number.
    return nth_mark(letters, 1, 0, low, high, long, (many - 1) // 2)


def rows_ahead(rows, mark):
    """How many of the rows have an old mark ahead of this one."""
    # Halved, since many marks may be carried by many renewals.
    first = 0
    last = len(rows)
    while first < last:
        middle = (first + last) // 2
        if rows[middle][0] < mark:
            first = middle + 1
        else:
            last = middle
    return first


def first_new(rows):
    """The new mark of the first row that has one, None where none has."""
    for old, new in rows:
        if new is not None:
            return new
    return None


def carried_knowing(letters, rows, mark, stems):
    """As carried; stems is a dict of the stems found so far, by low and high, and takes on new ones."""
    place = rows_ahead(rows, mark)
    if place < len(rows) and rows[place][0] == mark:
        return rows[place][1]
    low = first_new(list(reversed(rows[:place])))
    high = first_new(rows[place:])
    # Kept, since renewals of as many things have the same new marks, and so the same stems.
    if (low, high) not in stems:
        stems[(low, high)] = stem_between(letters, low, high)
    return stems[(low, high)] + mark


def carried(letters, rows, mark):
    """What a mark is carried to by the renewal of these rows, None where it is let go."""
    return carried_knowing(letters, rows, mark, {})
