"""THINGS by chance: BOOKS whose SECTIONS are moved, cut, renamed, left out, closings, and walks by them."""

import random

from tests import naive_days
from tests.samples import letters

RIDE = ("ride",)
NAMES = ("north", "old", "ride", "loop")
WALKERS = ("ann", "ben", "walk")
DAYS = (0, 1, 2, 3, 4, 5, 6, 7, 8, 9998, 9999)


def random_marks(chance, many, pool):
    """MARKS one can be a SECTION by."""
    while True:
        marks = tuple(chance.choice(pool) for k in range(many))
        ways = [tuple(sorted(pair)) for pair in zip(marks, marks[1:])]
        if all(one != other for one, other in ways) and len(set(ways)) == len(ways):
            return marks


def random_section(chance, name, pool):
    marks = random_marks(chance, chance.choice((2, 2, 3, 4, 5)), pool)
    return (name, marks, tuple((chance.randint(1, 9), chance.randint(0, 3), chance.randint(0, 3)) for k in marks[1:]))


def random_halts(chance, sections, part):
    marks = sorted({mark for section in sections for mark in section[1]})
    return tuple(mark for mark in marks if chance.random() < part)[:20]


def random_besides(chance, sections):
    names = [section[0] for section in sections]
    chance.shuffle(names)
    if len(names) < 2 or chance.random() < 0.4:
        return ()
    first = chance.choice([many for many in (2, 3, 4) if many <= len(names)])
    rest = names[first:]
    return (tuple(names[:first]),) + ((tuple(rest[:4]),) if len(rest) >= 2 and chance.random() < 0.7 else ())


def random_badges(chance):
    names = chance.sample(("hill", "far", "north", "all"), chance.randint(0, 4))
    most = {"length": 40, "climb": 25, "days": 4, "sections": 4}
    sorts = [chance.choice(sorted(most)) for name in names]
    return tuple((name, sort, chance.randint(1, most[sort])) for name, sort in zip(names, sorts))


def random_book(chance, halts=0.5, most=4, pool=letters(5)):
    names = chance.sample(NAMES, chance.randint(1, most))
    sections = tuple(random_section(chance, name, pool) for name in names)
    return (sections, random_halts(chance, sections, halts), random_besides(chance, sections), random_badges(chance))


def changed_book(chance, book):
    """A BOOK much like another one: SECTIONS moved, turned, cut, renamed, left out, badges as they come."""
    sections = []
    for name, marks, stretches in book[0]:
        how = chance.random()
        if how < 0.1 and len(book[0]) > 1:
            continue
        if how < 0.3:
            marks, stretches = marks[::-1], stretches[::-1]
        elif how < 0.5 and len(marks) > 2:
            marks, stretches = marks[1:], stretches[1:]
        elif how < 0.6:
            name = chance.choice(NAMES)
        if name not in [section[0] for section in sections]:
            sections.append((name, marks, stretches))
    chance.shuffle(sections)
    sections = tuple(sections) or book[0]
    return (sections, random_halts(chance, sections, 0.5), random_besides(chance, sections), random_badges(chance))


def random_leg(chance, book):
    """A LEG, mostly one that the BOOK has."""
    if book is None or chance.random() < 0.05:
        i, j = chance.sample(range(8), 2)
        return (chance.choice(NAMES + ("south",)), i, j)
    name, marks, stretches = chance.choice(book[0])
    i, j = chance.sample(range(len(marks)), 2)
    return (name, i, j)


def ends(book, leg):
    for name, marks, stretches in book[0] if book else ():
        if name == leg[0] and leg[1] < len(marks) and leg[2] < len(marks):
            return (marks[leg[1]], marks[leg[2]])
    return None


def random_legs(chance, book, most=6):
    """LEGS, mostly SOUND by the BOOK."""
    legs = [random_leg(chance, book)]
    for k in range(chance.randint(0, most - 1)):
        tries = [random_leg(chance, book) for one in range(20)]
        joined = [one for one in tries if ends(book, one) and ends(book, legs[-1]) and ends(book, one)[0] == ends(book, legs[-1])[1]]
        if joined and chance.random() < 0.9:
            legs.append(joined[0])
        elif chance.random() < 0.7:
            legs.extend([RIDE, tries[0]])
        else:
            legs.append(tries[0])
    return tuple(legs)


def random_things(chance, many=12, days=DAYS):
    """So many THINGS, or somewhat fewer, all of which can be told together, in an order by chance."""
    told = [chance.choice(days[:3])]
    book = random_book(chance)
    things = [("book", told[0], book)]
    while len(things) < many:
        how = chance.random()
        if how < 0.2 and len(told) < len(days):
            day = chance.choice([one for one in days if one not in told])
            told.append(day)
            book = changed_book(chance, book) if chance.random() < 0.8 else book
            things.append(("book", day, book))
        elif how < 0.4:
            first, last = sorted((chance.choice(days), chance.choice(days)))
            things.append(("closed", chance.choice(NAMES), first, chance.choice((first, last))))
        else:
            day = chance.choice(days)
            things.append(("walk", day, chance.choice(WALKERS), random_legs(chance, naive_days.book_on(things, day))))
    things = list(dict.fromkeys(things))
    chance.shuffle(things)
    return things


def some_things(seeds, many=12, days=DAYS):
    """THINGS for each of so many seeds, as lists."""
    return [random_things(random.Random(seed), many, days) for seed in range(seeds)]
