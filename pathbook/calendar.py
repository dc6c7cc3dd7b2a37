"""The calendar: THINGS that are told, the BOOK OF a DAY, closings, and why LEGS of a walk don't count."""

from pathbook.books import wrong_place
from pathbook.errors import BadThing, NoBook, NotTold, SecondBook, TooMany
from pathbook.legs import first_break, is_legs, need_legs, reaches
from pathbook.words import LAST_DAY, RIDE, is_name, is_tuple, is_whole, need_day, need_name

MOST_THINGS = 99


def is_closing(thing):
    """Whether a tuple of four, of a closing's word, is a closing."""
    word, name, first, last = thing
    return is_name(name) and is_whole(first, 0, LAST_DAY) and is_whole(last, first, LAST_DAY)


def is_walk(thing):
    """Whether a tuple of four, of a walk's word, is a walk."""
    word, day, walker, legs = thing
    return is_whole(day, 0, LAST_DAY) and is_name(walker) and is_legs(legs)


def is_thing(thing):
    """Whether anything is a THING."""
    # What is no text is not compared: it could be equal to a word by its own rules.
    if not is_tuple(thing, 3, 4) or not isinstance(thing[0], str):
        return False
    if len(thing) == 3:
        return thing[0] == "book" and is_whole(thing[1], 0, LAST_DAY) and wrong_place(thing[2]) is None
    if thing[0] == "closed":
        return is_closing(thing)
    return thing[0] == "walk" and is_walk(thing)


def need_thing(thing):
    """Refuse with BadThing what is no THING."""
    if not is_thing(thing):
        raise BadThing("a THING is a BOOK, a closing or a walk")


def in_their_order(things):
    """A tuple of THINGS in the order in which they are kept."""
    # The words of the three kinds rise in that order themselves, and no two BOOKS have one DAY.
    return tuple(sorted(things))


def books_told(things):
    """A rising list of pairs (DAY, BOOK)."""
    return [(thing[1], thing[2]) for thing in things if thing[0] == "book"]


def put_in(things, thing):
    """The THINGS with one more, the same where it was told; BadThing, SecondBook(day), TooMany(99)."""
    need_thing(thing)
    if thing in things:
        return things
    if thing[0] == "book" and thing[1] in [day for day, book in books_told(things)]:
        raise SecondBook(thing[1])
    if len(things) >= MOST_THINGS:
        raise TooMany(MOST_THINGS)
    return in_their_order(things + (thing,))


def taken_out(things, thing):
    """The THINGS without one of them; BadThing, NotTold."""
    need_thing(thing)
    if thing not in things:
        raise NotTold("this THING isn't told")
    return without(things, thing)


def without(things, thing):
    """A tuple of the THINGS but one."""
    return tuple([other for other in things if other != thing])


def book_of(things, day):
    """The BOOK OF a DAY, None where there is none; BadDay."""
    need_day(day)
    found = None
    for begin, book in books_told(things):
        if begin <= day:
            found = book
    return found


def need_book_of(things, day):
    """The BOOK OF a DAY; BadDay, NoBook(day)."""
    book = book_of(things, day)
    if book is None:
        raise NoBook(day)
    return book


def whole_seasons(things):
    """A rising list of the SEASONS of all DAYS, the first one ending ahead of DAY 0 where a BOOK begins on it."""
    begins = [(0, None)] + books_told(things)
    ends = [day - 1 for day, book in begins[1:]] + [LAST_DAY]
    return [(begin, end, book) for (begin, book), end in zip(begins, ends)]


def seasons(things, first=0, last=9999):
    """A rising list of the SEASONS, cut to the DAYS from first to last; BadDay."""
    need_day(first)
    need_day(last)
    cut = [(max(begin, first), min(end, last), book) for begin, end, book in whole_seasons(things)]
    return [season for season in cut if season[0] <= season[1]]


def closings_told(things, day):
    """A list of the NAMES of all closings of that DAY, rising, perhaps with twins."""
    return [thing[1] for thing in things if thing[0] == "closed" and thing[2] <= day <= thing[3]]


def closed_on(things, name, day):
    """Whether the SECTION of that NAME is closed on that DAY; BadName, BadDay."""
    need_name(name)
    need_day(day)
    return name in closings_told(things, day)


def closures(things, name, first=0, last=9999):
    """A rising list of pairs (FIRST, LAST), as few as can be; BadName, BadDay."""
    need_name(name)
    need_day(first)
    need_day(last)
    told = [thing for thing in things if thing[0] == "closed" and thing[1] == name]
    found = []
    for thing in told:
        begin = max(thing[2], first)
        end = min(thing[3], last)
        if begin > end:
            continue
        # They rise by their begins: one that overlaps or touches can only go on from the last one.
        if found and begin <= found[-1][1] + 1:
            found[-1] = (found[-1][0], max(found[-1][1], end))
        else:
            found.append((begin, end))
    return found


def closed_names(things, day):
    """A rising tuple of the NAMES of all SECTIONS that are closed on that DAY; BadDay."""
    need_day(day)
    return tuple(sorted(set(closings_told(things, day))))


def own_reason(book, closed, leg):
    """The REASON of a LEG as if its walk were SOUND."""
    if leg == RIDE:
        return "ride"
    if book is None:
        return "book"
    found = [section for section in book[0] if section[0] == leg[0]]
    if not found:
        return "section"
    if not reaches(found[0], leg):
        return "marks"
    return "closed" if leg[0] in closed else ""


def reasons(things, day, legs):
    """A tuple of the REASONS of all LEGS and RIDES of a walk of that DAY; BadDay, BadLegs."""
    sound = is_sound(things, day, legs)
    book = book_of(things, day)
    closed = closed_names(things, day)
    own = [own_reason(book, closed, leg) for leg in legs]
    return tuple([reason if sound or reason != "" else "broken" for reason in own])


def counting(things, day, legs):
    """A tuple of whether each of the LEGS and RIDES of a walk of that DAY COUNTS; BadDay, BadLegs."""
    return tuple([reason == "" for reason in reasons(things, day, legs)])


def is_sound(things, day, legs):
    """Whether a walk of that DAY is SOUND; BadDay, BadLegs."""
    return break_of(things, day, legs) is None


def break_of(things, day, legs):
    """The place of the first LEG that makes a walk of that DAY not SOUND, None where it is; BadDay, BadLegs."""
    need_day(day)
    need_legs(legs)
    book = book_of(things, day)
    if book is None:
        return None
    return first_break(book, legs, closed_names(things, day))


def walks_of(things, walker, last=9999):
    """A list of pairs (DAY, LEGS) of the walks of that WALKER of DAYS not beyond last; BadName, BadDay."""
    need_name(walker)
    need_day(last)
    return [(thing[1], thing[3]) for thing in things if thing[0] == "walk" and thing[2] == walker and thing[1] <= last]
