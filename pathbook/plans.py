"""PLANS: in how few walks some STRETCHES of a BOOK, or those that are LEFT, can be walked."""

from pathbook.calendar import book_of, closed_names, need_book_of, put_in
from pathbook.covered import left
from pathbook.doing import stretches_left
from pathbook.errors import BadPlan
from pathbook.legs import counted, from_to, is_legs, passed, shortened, sums_of, turned
from pathbook.tours import odd_among, tours_of
from pathbook.walked import days_walked, pieces_in, rows_up_to
from pathbook.words import LAST_DAY, RIDE, need_day, need_name


def ends_of(book, pairs):
    """{(NAME, k): the MARKS at its ends} of the STRETCHES, in the order of the BOOK."""
    asked = {pair: True for pair in pairs}
    return {
        (name, k): (marks[k], marks[k + 1])
        for name, marks, stretches in book[0] for k in range(len(stretches)) if (name, k) in asked
    }


def ways_in(book, pairs):
    """A list of the pairs of MARKS at the ends of the STRETCHES, in the order of the BOOK."""
    return list(ends_of(book, pairs).values())


def marks_in(book, pairs):
    """A rising list of the MARKS at which the STRETCHES end."""
    return sorted(set([mark for way in ways_in(book, pairs) for mark in way]))


def touches(ways, group, way):
    """Whether one of a group, numbers of ways, has a MARK in common with a way."""
    return any([way[0] in ways[number] or way[1] in ways[number] for number in group])


def groups_of(ways):
    """A rising list of rising lists of the numbers of the ways, those together that hang together."""
    groups = []
    for number, way in enumerate(ways):
        near = [group for group in groups if touches(ways, group, way)]
        far = [group for group in groups if group not in near]
        groups = far + [[one for group in near for one in group] + [number]]
    return sorted([sorted(group) for group in groups])


def bits(book, pairs, clear=None):
    """A list of the BITS; of the CLEAR ones alone where clear is True, of the others where False."""
    ends = ends_of(book, pairs)
    ordered = list(ends)
    found = [tuple([ordered[number] for number in group]) for group in groups_of(list(ends.values()))]
    return [bit for bit in found if clear is None or is_clear(book, bit) == clear]


def odd_marks(book, pairs):
    """A rising list of the MARKS at which an odd number of the STRETCHES end."""
    return odd_among(ways_in(book, pairs))


def is_clear(book, bit):
    """Whether a BIT is CLEAR."""
    return not wanted(book, bit)


def wanted(book, bit):
    """A rising list of the MARKS that a BIT WANTS."""
    halts = book[1]
    odd = odd_marks(book, bit)
    if odd:
        return [mark for mark in odd if mark not in halts]
    marks = marks_in(book, bit)
    return [] if any([mark in halts for mark in marks]) else marks[:1]


def walks_for(book, bit):
    """How many walks a CLEAR BIT needs."""
    return max(1, len(odd_marks(book, bit)) // 2)


def walks_needed(book, pairs):
    """How many walks a PLAN has."""
    return sum([walks_for(book, bit) for bit in bits(book, pairs, True)])


def leg_of(pair, forth):
    """The LEG that passes one STRETCH."""
    name, k = pair
    return (name, k, k + 1) if forth else (name, k + 1, k)


def walks_in(book, bit):
    """A list of the walks that a CLEAR BIT needs, each LEG passing one STRETCH."""
    ends = ends_of(book, bit)
    ordered = list(ends)
    halts = [mark for mark in marks_in(book, bit) if mark in book[1]]
    tours = tours_of(list(ends.values()), halts[0])
    return [tuple([leg_of(ordered[number], forth) for number, forth in tour]) for tour in tours]


def plan(book, pairs, short=True):
    """A PLAN, its LEGS SHORTENED; where short is False, each LEG passing one STRETCH."""
    walks = [legs for bit in bits(book, pairs, True) for legs in walks_in(book, bit)]
    return tuple([shortened(legs) if short else legs for legs in walks])


def is_plain_walk(book, thing):
    """Whether anything is LEGS without RIDES that all COUNT by the BOOK, from a HALT to a HALT."""
    if not is_legs(thing) or RIDE in thing or counted(book, thing) != list(thing):
        return False
    return from_to(book, thing[0])[0] in book[1] and from_to(book, thing[-1])[1] in book[1]


def wrong_number(book, pairs, thing):
    """The NUMBER at which anything is wrong as a PLAN of the STRETCHES, None of one."""
    if not isinstance(thing, tuple):
        return -1
    lacking = {pair: True for bit in bits(book, pairs, True) for pair in bit}
    for number, legs in enumerate(thing):
        if not is_plain_walk(book, legs):
            return number
        for name, k, forth in passed(book, legs):
            pair = (name, k)
            if pair not in lacking:
                return number
            del lacking[pair]
    if lacking or len(thing) > walks_needed(book, pairs):
        return len(thing)
    return None


def need_plan(book, pairs, thing):
    """Refuse with BadPlan(NUMBER) what is no PLAN of the STRETCHES."""
    number = wrong_number(book, pairs, thing)
    if number is not None:
        raise BadPlan(number)


def climbs_more(book, legs):
    """Whether a walk CLIMBS more than it FALLS."""
    length, climb, fall = sums_of(book, legs)
    return climb > fall


def gentle(book, plan):
    """The PLAN made GENTLE."""
    return tuple([turned(legs) if climbs_more(book, legs) else legs for legs in plan])


def left_bits(club, walker, day, clear=None):
    """The BITS of what is LEFT; BadName, BadDay, NoBook(day)."""
    pairs = club.left(walker, day)
    return bits(club.book_of(day), pairs, clear)


def plan_for(club, walker, day, short=True):
    """A PLAN of what is LEFT; BadName, BadDay, NoBook(day)."""
    pairs = club.left(walker, day)
    return plan(club.book_of(day), pairs, short)


def things_for(club, walker, day):
    """A tuple of the THINGS of the walks of plan_for; BadName, BadDay, NoBook(day)."""
    return tuple([("walk", day, walker, legs) for legs in plan_for(club, walker, day)])


def rounds_and_stuck(club, walker, day):
    """The ROUNDS and the pairs that are STUCK, two lists; BadName, BadDay, NoBook(day), TooMany(99)."""
    things = club.things()
    pairs = left(things, walker, day)
    book = need_book_of(things, day)
    found = []
    walks = plan(book, pairs)
    while walks:
        found.append(walks)
        for legs in walks:
            things = put_in(things, ("walk", day, walker, legs))
        pairs = left(things, walker, day)
        walks = plan(book, pairs)
    return (found, pairs)


def rounds(club, walker, day):
    """A list of the ROUNDS; BadName, BadDay, NoBook(day), TooMany(99)."""
    return rounds_and_stuck(club, walker, day)[0]


def stuck(club, walker, day):
    """A list of the pairs that are STUCK; BadName, BadDay, NoBook(day), TooMany(99)."""
    return rounds_and_stuck(club, walker, day)[1]


def days_of_change(things, walker, first):
    """A rising list of the DAYS from first on, and it, on which what is LEFT may change."""
    days = [first]
    for thing in things:
        if thing[0] == "closed":
            days.extend([thing[2], thing[3] + 1])
        elif thing[0] == "book" or thing[2] == walker:
            days.append(thing[1])
    return sorted(set([day for day in days if first <= day <= LAST_DAY]))


def is_free(things, rows, day):
    """Whether a DAY is FREE for a WALKER of these day_rows."""
    book = book_of(things, day)
    if book is None:
        return False
    pairs = stretches_left(book, pieces_in(rows_up_to(rows, day)), closed_names(things, day))
    return len(pairs) > 0 and not bits(book, pairs, False)


def first_free(club, walker, day):
    """The first DAY from that one on that is FREE, None where none is; BadName, BadDay."""
    need_name(walker)
    need_day(day)
    things = club.things()
    rows = days_walked(things, walker, LAST_DAY)
    for one in days_of_change(things, walker, day):
        if is_free(things, rows, one):
            return one
    return None
