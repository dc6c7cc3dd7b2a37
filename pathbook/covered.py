"""What a WALKER has covered up to a DAY, and what is DONE and LEFT in the BOOK OF it."""

from pathbook.calendar import closed_names, need_book_of, walks_of
from pathbook.doing import (
    length_done, length_of, sections_done, sections_excused, standing_in, stretches_done, stretches_left,
)
from pathbook.walked import days_walked, pieces_in, steps_on, sums_in
from pathbook.words import need_day, need_name


def covered(things, walker, day=9999):
    """A rising list of the PIECES COVERED up to day; BadName, BadDay."""
    return pieces_in(days_walked(things, walker, day))


def times(things, walker, day=9999):
    """A rising list of (PIECE, OUT, HOME), how often each was passed out and home; BadName, BadDay."""
    many_out = {}
    many_home = {}
    for own_day, legs in walks_of(things, walker, day):
        for piece, out in steps_on(things, own_day, legs):
            many_out[piece] = many_out.get(piece, 0) + (1 if out else 0)
            many_home[piece] = many_home.get(piece, 0) + (0 if out else 1)
    return [(piece, many_out[piece], many_home[piece]) for piece in sorted(many_out)]


def came(things, walker, day=9999):
    """A rising list of pairs (DAY, PIECES), when PIECES came to be covered; BadName, BadDay."""
    return [(row[0], row[1]) for row in days_walked(things, walker, day) if row[1]]


def done(things, walker, day=9999):
    """A list of the pairs (NAME, k) of the STRETCHES DONE; BadName, BadDay, NoBook(day)."""
    pieces = covered(things, walker, day)
    return stretches_done(need_book_of(things, day), pieces)


def left(things, walker, day=9999):
    """A list of the pairs (NAME, k) of the STRETCHES LEFT; BadName, BadDay, NoBook(day)."""
    pieces = covered(things, walker, day)
    return stretches_left(need_book_of(things, day), pieces, closed_names(things, day))


def finished(things, walker, day=9999):
    """A list of the NAMES of the SECTIONS DONE; BadName, BadDay, NoBook(day)."""
    pieces = covered(things, walker, day)
    return sections_done(need_book_of(things, day), pieces)


def excused(things, walker, day=9999):
    """A list of the NAMES of the SECTIONS EXCUSED; BadName, BadDay, NoBook(day)."""
    pieces = covered(things, walker, day)
    return sections_excused(need_book_of(things, day), pieces)


def share(things, walker, day=9999):
    """The LENGTH of all STRETCHES DONE and that of all STRETCHES; BadName, BadDay, NoBook(day)."""
    pieces = covered(things, walker, day)
    book = need_book_of(things, day)
    return (length_done(book, pieces), length_of(book))


def standing(things, walker, name, day=9999):
    """The STANDING of a SECTION; BadName of walker, of name, BadDay, NoBook(day), NoSection(name)."""
    need_name(walker)
    need_name(name)
    pieces = covered(things, walker, day)
    return standing_in(need_book_of(things, day), pieces, closed_names(things, day), name)


def sums(things, walker, day=9999, since=0):
    """The SUMS up to day, of walks of DAYS from since on; BadName, BadDay of day, of since."""
    rows = days_walked(things, walker, day)
    need_day(since)
    return sums_in([row for row in rows if row[0] >= since])
