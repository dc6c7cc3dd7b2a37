"""BOOKS, LEGS and THINGS read in another, slower way: a line is good where what it seems to say is good and is told
just so, and a word can stand where some way to go on from it makes a good line."""

import functools
import re

from pathbook.books import need_book
from pathbook.errors import BadBook
from pathbook.showing import book_text, legs_text
from tests.naive_legs import are_legs

FIGURES = re.compile(r"(0|[1-9][0-9]{0,4})\Z")
NAME = re.compile(r"[a-z]{1,8}\Z")
RIDE = ("ride",)


def number(word):
    """The number that a word seems to be, else the word."""
    return int(word) if FIGURES.match(word) else word


def parts_of(words):
    """The words between each two "/"."""
    parts = [[]]
    for word in words:
        if word == "/":
            parts.append([])
        else:
            parts[-1].append(word)
    return parts


def seeming_section(part):
    """The SECTION that a part seems to be."""
    rest = [number(word) for word in part[2:]]
    stretches = tuple(tuple(rest[k + 1:k + 4]) for k in range(0, len(rest) - 1, 4))
    return ("".join(part[1:2]), tuple(rest[::4]), stretches)


def whole_book(words):
    """The BOOK that all these words tell, None where they tell none."""
    sections, halts, besides, badges = [], [], [], []
    for part in parts_of(words):
        word = part[0] if part else ""
        if word == "section":
            sections.append(seeming_section(part))
        elif word == "halts":
            halts.extend(part[1:])
        elif word == "beside":
            besides.append(tuple(part[1:]))
        elif word == "badge":
            badges.append(tuple(part[1:3]) + tuple(number(one) for one in part[3:]))
        else:
            return None
    book = (tuple(sections), tuple(halts), tuple(besides), tuple(badges))
    try:
        need_book(book)
    except BadBook:
        return None
    # Parts in another order, or words that were passed over, are told otherwise.
    return book if book_text(book).split(" ") == list(words) else None


def whole_legs(words):
    """The LEGS that all these words tell, None where they tell none."""
    legs, rest = [], list(words)
    while rest:
        if rest[0] == "/":
            legs.append(RIDE)
            rest = rest[1:]
        else:
            legs.append((rest[0],) + tuple(number(word) for word in rest[1:3]))
            rest = rest[3:]
    if not are_legs(tuple(legs)) or legs_text(tuple(legs)).split(" ") != list(words):
        return None
    return tuple(legs)


def is_day(word):
    return FIGURES.match(word) is not None and int(word) <= 9999


def whole_thing(words):
    """The THING that all these words tell, None where they tell none."""
    words = list(words)
    if len(words) < 3:
        return None
    if words[0] == "book" and is_day(words[1]):
        book = whole_book(words[2:])
        return None if book is None else ("book", int(words[1]), book)
    if words[0] == "walk" and is_day(words[1]) and NAME.match(words[2]):
        legs = whole_legs(words[3:])
        return None if legs is None else ("walk", int(words[1]), words[2], legs)
    if words[0] == "closed" and len(words) == 4 and NAME.match(words[1]) and is_day(words[2]) and is_day(words[3]):
        first, last = int(words[2]), int(words[3])
        return ("closed", words[1], first, last) if first <= last else None
    return None


def ends_of(words):
    """Every end of a list of words, the empty one too."""
    return [list(words[k:]) for k in range(len(words) + 1)]


def book_ends(words):
    """Ways to go on from the words of a BOOK: if there is any, one of these is one."""
    ends = ends_of("/ section qqqqqqqx qqqqqqqy 1 0 0 qqqqqqqz".split()) + ends_of("/ badge qqqqqqqx days 1".split())
    names = sorted(set(word for word in words if NAME.match(word)))
    ends.extend([one] for one in names)
    if words and words[-1] == "beside":
        ends.extend([one, other] for one in names for other in names)
    return ends


def legs_ends(words):
    """Ways to go on from the words of LEGS."""
    return ends_of("q 0 1".split()) + [["0"]]


def thing_ends(words):
    """Ways to go on from the words of a THING."""
    if len(words) < 3:
        section = book_ends([])[1]
        return ends_of("closed q 9999 9999".split()) + ends_of("0 q q 0 1".split()) + [["0"] + section, section]
    if words[0] == "book":
        return book_ends(words[2:])
    return legs_ends(words) + [[], ["9999"]]


def first_wrong(words, can_stand, good=0):
    """The number of the first word with which no good line begins, one behind the last where words lack; so many
    words ahead can stand."""
    for k in range(good + 1, len(words) + 1):
        if not can_stand(tuple(words[:k])):
            return k
    return len(words) + 1


def goes_on(words, whole, ends):
    """Whether a good line begins with these words."""
    return any(whole(list(words) + end) is not None for end in ends(words))


@functools.cache
def book_goes_on(words):
    return goes_on(words, whole_book, book_ends)


@functools.cache
def legs_go_on(words):
    return goes_on(words, whole_legs, legs_ends)


@functools.cache
def thing_goes_on(words):
    return goes_on(words, whole_thing, thing_ends)
