"""What the walks of a WALKER come to, each by the BOOK OF its own DAY."""

from pathbook.calendar import book_of, closed_names, walks_of
from pathbook.legs import passed, sums_of


def steps_by(book, legs, closed):
    """A list of pairs (PIECE, OUT) of all STRETCHES that the LEGS which COUNT pass, in order; the BOOK may be None."""
    if book is None:
        return []
    marks = {section[0]: section[1] for section in book[0]}
    steps = []
    for name, k, forth in passed(book, legs, closed):
        one = marks[name][k]
        other = marks[name][k + 1]
        steps.append(((name, min(one, other), max(one, other)), forth == (one < other)))
    return steps


def worth_by(book, legs, closed):
    """(PIECES, LENGTH, CLIMB, FALL) of the LEGS that COUNT, PIECES a rising tuple; the BOOK may be None."""
    if book is None:
        return ((), 0, 0, 0)
    pieces = sorted(set([piece for piece, out in steps_by(book, legs, closed)]))
    return (tuple(pieces),) + sums_of(book, legs, closed)


def steps_on(things, day, legs):
    """The pairs (PIECE, OUT) of a walk of that DAY."""
    return steps_by(book_of(things, day), legs, closed_names(things, day))


def worth_on(things, day, legs):
    """(PIECES, LENGTH, CLIMB, FALL) of a walk of that DAY."""
    return worth_by(book_of(things, day), legs, closed_names(things, day))


def both_together(one, other):
    """Two rows of one DAY as one."""
    day, pieces, length, climb, fall = one
    return (day, tuple(sorted(pieces + other[1])), length + other[2], climb + other[3], fall + other[4])


def day_rows(walks):
    """A row (DAY, PIECES, LENGTH, CLIMB, FALL) of each DAY with a LEG that counts, PIECES those that weren't covered.

    Walks are such rows, too, one each, by rising DAY, with all PIECES that they pass. Two WALKERS of the same rows have
    the same COVERED and SUMS up to each DAY, and others haven't.
    """
    rows = []
    have = {}
    for day, pieces, length, climb, fall in walks:
        # Each STRETCH has a LENGTH: without one no LEG counts.
        if length == 0:
            continue
        new = tuple([piece for piece in pieces if piece not in have])
        for piece in new:
            have[piece] = True
        row = (day, new, length, climb, fall)
        if rows and rows[-1][0] == day:
            rows[-1] = both_together(rows[-1], row)
        else:
            rows.append(row)
    return rows


def days_walked(things, walker, last):
    """The day_rows of a WALKER, of DAYS not beyond last; BadName, BadDay."""
    walks = walks_of(things, walker, last)
    return day_rows([(day,) + worth_on(things, day, legs) for day, legs in walks])


def rows_up_to(rows, day):
    """Those of the day_rows whose DAYS are not beyond that one."""
    return [row for row in rows if row[0] <= day]


def pieces_in(rows):
    """A rising list of the PIECES of day_rows."""
    return sorted([piece for row in rows for piece in row[1]])


def sums_in(rows):
    """The SUMS (DAYS, LENGTH, CLIMB, FALL) of day_rows."""
    length = sum([row[2] for row in rows])
    climb = sum([row[3] for row in rows])
    fall = sum([row[4] for row in rows])
    return (len(rows), length, climb, fall)
