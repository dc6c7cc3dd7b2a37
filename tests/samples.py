"""What several tests hand in: good SECTIONS and BOOKS, and things of every other kind."""


class Odd:
    """An object of no kind that the program knows."""


class Like:
    """An object that says of anything that it is equal to it."""

    def __eq__(self, other):
        return True

    def __hash__(self):
        return 0


# None of these is a NAME, a whole number, or a tuple of more than one thing.
ANYTHING = (
    None, True, False, "", " ", "A", "a b", "a\n", "abcdefghi", "a1", "a-b", b"", b"a", b"abc",
    [], ["a"], [1, 2, 3], (), ("a",), {}, {"a": 1}, set(), {"a"}, frozenset(["a"]),
    object(), Odd(), Odd, Like(), len, range(3), -1, 10 ** 6, -10 ** 6, 10 ** 5000,
)

# Kinds that can't be keys of a dict, nor members of a set.
NO_KEYS = ([], ["a"], {}, {"a": "b"}, set(), {"a"}, bytearray(b"a"), ([],), ("a", []))

NORTH = ("north", ("a", "b", "c"), ((12, 3, 4), (5, 0, 2)))
OLD = ("old", ("c", "b", "a", "d"), ((1, 0, 0), (2, 1, 0), (999, 999, 999)))
# The MARK b comes again, and no way is gone twice.
LOOP = ("loop", ("b", "e", "a", "b", "f"), ((7, 1, 2), (8, 3, 4), (9, 5, 6), (10, 7, 8)))
EAST = ("east", ("z", "y"), ((3, 0, 0),))
WEST = ("west", ("y", "x"), ((4, 9, 1),))

BOOK = (
    (NORTH, OLD, LOOP, EAST, WEST),
    ("a", "c", "z"),
    (("old", "north"), ("west", "loop", "east")),
    (("hill", "climb", 900), ("far", "length", 99999), ("old", "days", 1), ("a", "sections", 5)),
)

PLAIN = ((EAST,), (), (), ())


def put(thing, at, part):
    """The tuple with another part at that place."""
    return thing[:at] + (part,) + thing[at + 1:]


def letters(many, begin=""):
    """So many unlike NAMES, rising."""
    signs = "abcdefghijklmnopqrstuvwxyz"
    return tuple(begin + signs[k] for k in range(many))


def long_section(name, many, begin=""):
    """A SECTION of so many unlike MARKS."""
    return (name, letters(many, begin), ((1, 2, 3),) * (many - 1))
