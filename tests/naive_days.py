"""DAYS looked at in another, slower way: sentence by sentence, DAY by DAY, STRETCH by STRETCH.

THINGS may be handed in in any order. All is told as sets and dicts, or as lists where an order is promised.
"""

from tests import naive_legs

LAST_DAY = 9999


def books(things):
    return {thing[1]: thing[2] for thing in things if thing[0] == "book"}


def book_on(things, day):
    """The BOOK OF a DAY, or None."""
    told = books(things)
    ahead = sorted(one for one in told if one <= day)
    return told[ahead[-1]] if ahead else None


def closed_on(things, day):
    """The NAMES closed on a DAY."""
    return {thing[1] for thing in things if thing[0] == "closed" and thing[2] <= day <= thing[3]}


def in_order(things):
    """THINGS in the order of [50], kind by kind."""
    kinds = {word: [thing for thing in things if thing[0] == word] for word in ("book", "closed", "walk")}
    return tuple(
        sorted(kinds["book"], key=lambda thing: thing[1])
        + sorted(kinds["closed"], key=lambda thing: (thing[1], thing[2], thing[3]))
        + sorted(kinds["walk"], key=lambda thing: (thing[1], thing[2], thing[3]))
    )


def steps(things, walk):
    """The small steps of the LEGS of a walk's THING that count."""
    book = book_on(things, walk[1])
    return [] if book is None else naive_legs.all_steps(book, walk[3], closed_on(things, walk[1]))


def reasons(things, day, legs):
    """The REASONS, clause by clause."""
    book, closed, told = book_on(things, day), closed_on(things, day), []
    sound = book is None or naive_legs.is_sound(book, legs, closed)
    for leg in legs:
        marks = None if book is None else {section[0]: len(section[1]) for section in book[0]}
        for reason, holds in (
            ("ride", lambda: leg == ("ride",)), ("book", lambda: book is None), ("section", lambda: leg[0] not in marks),
            ("marks", lambda: not (leg[1] < marks[leg[0]] and leg[2] < marks[leg[0]])),
            ("closed", lambda: leg[0] in closed), ("broken", lambda: not sound), ("", lambda: True),
        ):
            if holds():
                told.append(reason)
                break
    return tuple(told)


def break_of(things, day, legs):
    book, closed = book_on(things, day), closed_on(things, day)
    for k in range(len(legs) - 1):
        if book is not None and not naive_legs.is_sound(book, legs[k:k + 2], closed):
            return k
    return None


def walks(things, walker, day, since=0):
    return [thing for thing in things if thing[0] == "walk" and thing[2] == walker and since <= thing[1] <= day]


def piece(step):
    return (step[0],) + tuple(sorted(step[3:5]))


def covered(things, walker, day):
    """The set of the PIECES."""
    return {piece(step) for walk in walks(things, walker, day) for step in steps(things, walk)}


def times(things, walker, day):
    told = {}
    for walk in walks(things, walker, day):
        for step in steps(things, walk):
            out, home = told.get(piece(step), (0, 0))
            is_out = step[3] < step[4]
            told[piece(step)] = (out + is_out, home + (not is_out))
    return [(one,) + told[one] for one in sorted(told)]


def days_of(things):
    """The DAYS on which anything can change, and those beside them."""
    days = {0, 1, LAST_DAY}
    for thing in things:
        for day in thing[2:4] if thing[0] == "closed" else thing[1:2]:
            days |= {day - 1, day, day + 1}
    return sorted(day for day in days if 0 <= day <= LAST_DAY)


def came(things, walker, day):
    told, had = [], set()
    for one in days_of(things):
        if one <= day:
            has = covered(things, walker, one)
            if has - had:
                told.append((one, tuple(sorted(has - had))))
            had = has
    return told


def sums(things, walker, day, since=0):
    found = [(walk[1], step) for walk in walks(things, walker, day, since) for step in steps(things, walk)]
    return (len({one for one, step in found}),) + tuple(sum(step[at] for one, step in found) for at in (5, 6, 7))


def states(book, have):
    """(NAME, k, PIECE, LENGTH, whether it is DONE) of each STRETCH."""
    told = []
    for name, marks, stretches in book[0]:
        for k, stretch in enumerate(stretches):
            own = (name,) + tuple(sorted((marks[k], marks[k + 1])))
            told.append((name, k, own, stretch[0], own in have))
    return told


def done_in(book, have):
    return [(name, k) for name, k, own, length, is_done in states(book, have) if is_done]


def finished_in(book, have):
    return [name for name, marks, stretches in book[0] if all(row[4] for row in states(book, have) if row[0] == name)]


def excused_in(book, have):
    told = []
    for name in [section[0] for section in book[0]]:
        beside = {other for one in book[2] if name in one for other in one if other != name}
        if name not in finished_in(book, have) and beside & set(finished_in(book, have)):
            told.append(name)
    return told


def left_in(book, have, closed):
    told = []
    for name, k, own, length, is_done in states(book, have):
        if is_done or name in finished_in(book, have) or name in excused_in(book, have) or name in closed:
            continue
        told.append((name, k))
    return told


def standing_in(book, have, closed, name):
    begun = any(row[4] for row in states(book, have) if row[0] == name)
    for word, holds in (
        ("done", name in finished_in(book, have)), ("excused", name in excused_in(book, have)),
        ("closed", name in closed), ("begun", begun), ("open", True),
    ):
        if holds:
            return word


def share_in(book, have):
    rows = states(book, have)
    return (sum(row[3] for row in rows if row[4]), sum(row[3] for row in rows))


def account(things, walkers, days):
    """COVERED and SUMS of each WALKER up to each DAY."""
    return [(covered(things, walker, day), sums(things, walker, day)) for walker in walkers for day in days]


def idle(things):
    """The set of the THINGS that are IDLE."""
    walkers = sorted({thing[2] for thing in things if thing[0] == "walk"})
    days = sorted({thing[1] for thing in things if thing[0] == "walk"} | {LAST_DAY})
    whole = account(things, walkers, days)
    return {
        thing for thing in things
        if account([other for other in things if other != thing], walkers, days) == whole
    }


def lean(things):
    """The THINGS that are left of which none is IDLE, one let go at a time."""
    things = in_order(things)
    while found := idle(things):
        first = [thing for thing in things if thing in found][0]
        things = tuple(thing for thing in things if thing != first)
    return things
