"""Which THINGS are IDLE."""

from pathbook.calendar import book_of, books_told, closed_names, without
from pathbook.walked import day_rows, worth_by


def worth_among(things, walk, known):
    """(PIECES, LENGTH, CLIMB, FALL) of a walk's THING among THINGS.

    known keeps what was found once: of THINGS of which only some are let go a DAY tells its BOOK.
    """
    day = walk[1]
    legs = walk[3]
    begins = [begin for begin, book in books_told(things) if begin <= day]
    closed = closed_names(things, day)
    key = (legs, max(begins, default=-1), closed)
    if key not in known:
        known[key] = worth_by(book_of(things, day), legs, closed)
    return known[key]


def rows_among(things, walker, known):
    """The day_rows of a WALKER among THINGS."""
    walks = [thing for thing in things if thing[0] == "walk" and thing[2] == walker]
    return day_rows([(walk[1],) + worth_among(things, walk, known) for walk in walks])


def may_matter(thing, walk):
    """Whether a BOOK or a closing may matter for what a walk comes to."""
    if thing[0] == "book":
        return thing[1] <= walk[1]
    return thing[2] <= walk[1] <= thing[3] and thing[1] in [leg[0] for leg in walk[3]]


def is_idle(things, thing, known):
    """Whether a THING that is told is IDLE."""
    if thing[0] == "walk":
        # Without a walk of which a LEG counts a LENGTH lacks; other walks don't hang on it.
        return worth_among(things, thing, known)[1] == 0
    others = without(things, thing)
    walks = [walk for walk in others if walk[0] == "walk" and may_matter(thing, walk)]
    changed = [
        walk[2] for walk in walks if worth_among(things, walk, known) != worth_among(others, walk, known)
    ]
    # Walks that changed may still come to the same together, or pass what is covered anyway.
    return all([rows_among(things, name, known) == rows_among(others, name, known) for name in sorted(set(changed))])


def idle_among(things):
    """A list of the THINGS that are IDLE, in their order."""
    known = {}
    return [thing for thing in things if is_idle(things, thing, known)]


def first_idle(things, known):
    """The first THING that is IDLE, None where none is."""
    for thing in things:
        if is_idle(things, thing, known):
            return thing
    return None


def lean_of(things):
    """The THINGS that are left where, as long as one is IDLE, the first one is let go."""
    known = {}
    thing = first_idle(things, known)
    while thing is not None:
        things = without(things, thing)
        thing = first_idle(things, known)
    return things
