"""Good BOOKS, LEGS and THINGS at each bound, with their texts written out where they are short."""

from tests.samples import BOOK, EAST, NORTH, OLD, PLAIN, letters, long_section, put

RIDE = ("ride",)

SHORT_BOOKS = (
    (PLAIN, "section east z 3 0 0 y"),
    (((NORTH,), ("a", "c"), (), ()), "section north a 12 3 4 b 5 0 2 c / halts a c"),
    (
        ((NORTH, OLD), ("a", "c"), (("north", "old"),), (("hill", "climb", 900),)),
        "section north a 12 3 4 b 5 0 2 c / section old c 1 0 0 b 2 1 0 a 999 999 999 d / halts a c"
        " / beside north old / badge hill climb 900",
    ),
    (
        (((NORTH, EAST), (), (("east", "north"),), ())),
        "section north a 12 3 4 b 5 0 2 c / section east z 3 0 0 y / beside east north",
    ),
    (((EAST,), (), (), (("far", "length", 99999), ("a", "days", 1))),
     "section east z 3 0 0 y / badge far length 99999 / badge a days 1"),
    (((EAST,), ("z",), (), (("abcdefgh", "sections", 8),)),
     "section east z 3 0 0 y / halts z / badge abcdefgh sections 8"),
    # All NAMES are words of texts.
    (
        (
            (("section", ("halts", "beside", "badge", "halts"), ((1, 0, 0), (2, 0, 0), (3, 0, 0))),
             ("halts", ("section", "book"), ((999, 999, 999),)), ("ride", ("ride", "walk"), ((1, 2, 3),)),
             ("closed", ("closed", "length"), ((7, 8, 9),))),
            ("badge", "beside", "book", "halts", "section"),
            (("halts", "section"), ("ride", "closed")),
            (("days", "days", 1), ("badge", "sections", 2), ("halts", "climb", 3), ("length", "length", 4)),
        ),
        "section section halts 1 0 0 beside 2 0 0 badge 3 0 0 halts / section halts section 999 999 999 book"
        " / section ride ride 1 2 3 walk / section closed closed 7 8 9 length"
        " / halts badge beside book halts section / beside halts section / beside ride closed"
        " / badge days days 1 / badge badge sections 2 / badge halts climb 3 / badge length length 4",
    ),
)

# Everything that a BOOK can have, as much of it as it can, and as great.
FULL_BOOK = (
    tuple(
        ("sections"[:k + 1], letters(8, "abcdefg"[:k]), ((999, 999, 999),) * 7) for k in range(7)
    ) + (("abcdefgh", tuple("abcdefgh"[k:] + "abcdefgh"[:k] for k in range(8)), ((1, 0, 0),) * 7),),
    tuple(sorted(set(letters(8) + letters(8, "a") + letters(8, "ab"))))[:20],
    (("s", "se"), ("sec", "sect"), ("secti", "sectio"), ("section", "abcdefgh")),
    tuple((name, "length", 99999) for name in letters(6, "abcdefg")),
)

WIDE_BOOK = (
    tuple(long_section(name, 2) for name in letters(8)), (), (("h", "a", "c", "b"), ("g", "d", "f", "e")), (),
)

BOOKS = tuple(book for book, text in SHORT_BOOKS) + (BOOK, FULL_BOOK, WIDE_BOOK) + tuple(
    ((long_section("north", many),), letters(many), (), ()) for many in range(2, 9)
) + tuple(
    put(PLAIN, 3, tuple((name, sort, number) for name in letters(many)))
    for many, sort, number in ((1, "length", 1), (2, "climb", 9999), (5, "days", 10000), (6, "sections", 99999))
)

SHORT_LEGS = (
    ((("north", 0, 3),), "north 0 3"),
    ((("north", 0, 3), ("east", 5, 2), RIDE, ("north", 2, 0)), "north 0 3 east 5 2 / north 2 0"),
    ((("ride", 7, 0), RIDE, ("ride", 0, 7), ("walk", 1, 2)), "ride 7 0 / ride 0 7 walk 1 2"),
    ((("abcdefgh", 6, 7),) * 3, "abcdefgh 6 7 abcdefgh 6 7 abcdefgh 6 7"),
    ((("a", 0, 1), RIDE, ("a", 0, 1), RIDE, ("a", 0, 1)), "a 0 1 / a 0 1 / a 0 1"),
)


def legs_of(kinds):
    """LEGS and RIDES, as these signs have it, "l" and "r"."""
    return tuple(RIDE if sign == "r" else ("abcdefgh", k % 8, (k + 1 + k // 8 % 7) % 8) for k, sign in enumerate(kinds))


LONG_LEGS = tuple(legs_of(kinds) for kinds in (
    "l" * 59, "l" * 60, "lr" * 29 + "l", "lr" * 29 + "ll", "l" * 58 + "rl", "lr" + "l" * 58,
))

EVERY_LEGS = tuple(legs for legs, text in SHORT_LEGS) + LONG_LEGS + tuple(
    ((name, i, j),) for name in ("a", "abcdefgh", "ride") for i in range(8) for j in range(8) if i != j
)

SHORT_THINGS = (
    (("book", 5, PLAIN), "book 5 section east z 3 0 0 y"),
    (("closed", "north", 3, 9), "closed north 3 9"),
    (("closed", "closed", 0, 0), "closed closed 0 0"),
    (("closed", "abcdefgh", 0, 9999), "closed abcdefgh 0 9999"),
    (("closed", "a", 9999, 9999), "closed a 9999 9999"),
    (("walk", 12, "ann", SHORT_LEGS[1][0]), "walk 12 ann north 0 3 east 5 2 / north 2 0"),
    (("walk", 0, "walk", (("walk", 0, 1),)), "walk 0 walk walk 0 1"),
    (("walk", 9999, "abcdefgh", (("ride", 0, 1),)), "walk 9999 abcdefgh ride 0 1"),
)

THINGS = tuple(thing for thing, text in SHORT_THINGS) + tuple(
    ("book", day, book) for day in (0, 1, 9999) for book in BOOKS
) + tuple(
    ("walk", day, walker, legs) for day in (0, 9999) for walker in ("a", "book") for legs in EVERY_LEGS
) + tuple(
    ("closed", name, first, last)
    for name in ("z", "book", "abcdefgh") for first in (0, 1, 10, 9999) for last in (first, 9999)
)
