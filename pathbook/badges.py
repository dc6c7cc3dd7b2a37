"""Badges: what is held against them, what lacks, and on which DAYS they are gained."""

from pathbook.books import badge_of
from pathbook.calendar import book_of, books_told, in_their_order, need_book_of, without
from pathbook.doing import length_done, sections_done
from pathbook.legs import need_legs
from pathbook.walked import days_walked, pieces_in, rows_up_to, sums_in
from pathbook.words import LAST_DAY, need_day, need_name


def held_for(book, rows, sort):
    """What is HELD AGAINST a badge of that SORT in a BOOK by a WALKER of these day_rows."""
    if sort == "length":
        return length_done(book, pieces_in(rows))
    if sort == "sections":
        return len(sections_done(book, pieces_in(rows)))
    days, length, climb, fall = sums_in(rows)
    return climb if sort == "climb" else days


def held(things, walker, name, day=9999):
    """What is HELD AGAINST the badge of that NAME, None where the BOOK has none; BadName, BadDay, NoBook(day)."""
    need_name(walker)
    need_name(name)
    rows = days_walked(things, walker, day)
    book = need_book_of(things, day)
    badge = badge_of(book, name)
    return None if badge is None else held_for(book, rows, badge[0])


def days_to_gain(things, rows):
    """A rising list of the DAYS on which a WALKER of these day_rows may gain a badge."""
    return sorted(set([day for day, book in books_told(things)] + [row[0] for row in rows]))


def gains_of(things, rows, last):
    """{NAME: DAY} of the badges GAINED by a WALKER of these day_rows on DAYS not beyond last."""
    found = {}
    for day in days_to_gain(things, rows):
        book = book_of(things, day)
        if day > last or book is None:
            continue
        so_far = rows_up_to(rows, day)
        for name, sort, number in book[3]:
            if name not in found and held_for(book, so_far, sort) >= number:
                found[name] = day
    return found


def lacking(things, walker, day=9999):
    """A list of pairs (NAME, LACKS) of all badges of the BOOK OF day; BadName, BadDay, NoBook(day)."""
    rows = days_walked(things, walker, day)
    book = need_book_of(things, day)
    have = gains_of(things, rows, day)
    return [
        (name, 0 if name in have else number - held_for(book, rows, sort)) for name, sort, number in book[3]
    ]


def gained(things, walker, last=9999):
    """A rising list of pairs (DAY, NAME) of all badges GAINED on DAYS not beyond last; BadName, BadDay."""
    rows = days_walked(things, walker, last)
    found = gains_of(things, rows, last)
    return sorted([(found[name], name) for name in found])


def gained_on(things, walker, name, last=9999):
    """The DAY on which the badge of that NAME is GAINED, None where on none up to last; BadName, BadDay."""
    need_name(walker)
    need_name(name)
    rows = days_walked(things, walker, last)
    return gains_of(things, rows, last).get(name)


def brought(things, walker, day, legs):
    """A rising list of pairs (DAY, NAME), what a walk, told or not, has BROUGHT; BadName, BadDay, BadLegs."""
    need_name(walker)
    need_day(day)
    need_legs(legs)
    walk = ("walk", day, walker, legs)
    others = without(things, walk)
    # put_in would refuse a hundredth THING, which is asked of here all the same.
    more = in_their_order(others + (walk,))
    ahead = gained(others, walker, LAST_DAY)
    return [pair for pair in gained(more, walker, LAST_DAY) if pair not in ahead]
