"""STRETCHES, SECTIONS and BOOKS: whether anything is one, and what is told of good ones."""

from pathbook.errors import BadBook, BadSection, NoSection
from pathbook.words import is_name, is_tuple, is_whole

SORTS = ("length", "climb", "days", "sections")
# How many things each of the four of a BOOK has, at least and at most.
HOW_MANY = ((1, 8), (0, 20), (0, 4), (0, 6))
MOST_MARKS = 8
MOST_BESIDE = 4


def is_stretch(thing):
    """Whether anything is a STRETCH."""
    if not is_tuple(thing, 3, 3):
        return False
    length, up, down = thing
    return is_whole(length, 1, 999) and is_whole(up, 0, 999) and is_whole(down, 0, 999)


def ways_of(marks):
    """The pairs of neighbours among MARKS, the lesser text first."""
    return [(min(one, other), max(one, other)) for one, other in zip(marks, marks[1:])]


def are_marks(thing):
    """Whether anything is the MARKS of a SECTION."""
    if not is_tuple(thing, 2, MOST_MARKS) or not all([is_name(mark) for mark in thing]):
        return False
    ways = ways_of(thing)
    return all([one != other for one, other in ways]) and len(set(ways)) == len(ways)


def is_section(thing):
    """Whether anything is a SECTION."""
    if not is_tuple(thing, 3, 3):
        return False
    name, marks, stretches = thing
    if not is_name(name) or not are_marks(marks):
        return False
    many = len(marks) - 1
    return is_tuple(stretches, many, many) and all([is_stretch(stretch) for stretch in stretches])


def need_section(thing):
    """Refuse with BadSection what is no SECTION."""
    if not is_section(thing):
        raise BadSection("a SECTION is (NAME, MARKS, STRETCHES)")


def is_badge(thing):
    """Whether anything is a badge, by itself."""
    if not is_tuple(thing, 3, 3):
        return False
    name, sort, number = thing
    return is_name(name) and isinstance(sort, str) and sort in SORTS and is_whole(number, 1, 99999)


def names_of(named):
    """The NAMES of SECTIONS or of badges, which stand first in each."""
    return [one[0] for one in named]


def section_fits(sections, number):
    """Whether that SECTION is good, by itself and beside those ahead, which are."""
    section = sections[number]
    return is_section(section) and section[0] not in names_of(sections[:number])


def halt_fits(sections, halts, number):
    """Whether that HALT is good, by itself and beside those ahead, which are."""
    halt = halts[number]
    if not is_name(halt) or not any([halt in section[1] for section in sections]):
        return False
    return number == 0 or halts[number - 1] < halt


def beside_fits(sections, besides, number):
    """Whether that one of BESIDES is good, by itself and beside those ahead, which are."""
    beside = besides[number]
    # What is no NAME may be such that no set can have it.
    if not is_tuple(beside, 2, MOST_BESIDE) or not all([is_name(name) for name in beside]):
        return False
    names = names_of(sections)
    taken = [name for ahead in besides[:number] for name in ahead]
    free = [name for name in beside if name in names and name not in taken]
    return len(set(free)) == len(beside)


def badge_fits(badges, number):
    """Whether that badge is good, by itself and beside those ahead, which are."""
    badge = badges[number]
    return is_badge(badge) and badge[0] not in names_of(badges[:number])


def thing_fits(book, four, number):
    """Whether the thing of that number, of that one of the four, is good, all ahead being so."""
    sections, halts, besides, badges = book
    if four == 0:
        return section_fits(sections, number)
    if four == 1:
        return halt_fits(sections, halts, number)
    if four == 2:
        return beside_fits(sections, besides, number)
    return badge_fits(badges, number)


def wrong_place(thing):
    """The PLACE of what isn't so in anything as a BOOK, None of a BOOK."""
    if not is_tuple(thing, 4, 4):
        return ()
    for four, (least, most) in enumerate(HOW_MANY):
        if not is_tuple(thing[four], least, most):
            return (four,)
        for number in range(len(thing[four])):
            if not thing_fits(thing, four, number):
                return (four, number)
    return None


def need_book(thing):
    """Refuse with BadBook, which has the PLACE, what is no BOOK."""
    place = wrong_place(thing)
    if place is not None:
        raise BadBook(place)


def pieces_of(section):
    """A list of the PIECES of the STRETCHES of a SECTION, in order."""
    return [(section[0], one, other) for one, other in ways_of(section[1])]


def whole_of(section):
    """(LENGTH, UP, DOWN) of all STRETCHES of a SECTION together."""
    stretches = section[2]
    length = sum([stretch[0] for stretch in stretches])
    up = sum([stretch[1] for stretch in stretches])
    down = sum([stretch[2] for stretch in stretches])
    return (length, up, down)


def section_of(book, name):
    """The SECTION of that NAME; NoSection(name) where there is none."""
    # What is no NAME is not compared: it could be equal to one by its own rules.
    if is_name(name):
        for section in book[0]:
            if section[0] == name:
                return section
    raise NoSection(name)


def numbers_of(book, mark):
    """A list of pairs (NAME, i): where a MARK stands, in the order of the BOOK."""
    found = []
    for name, marks, stretches in book[0]:
        found.extend([(name, i) for i, one in enumerate(marks) if one == mark])
    return found


def besides_of(book, name):
    """A tuple of the NAMES beside the SECTION of that NAME; NoSection(name)."""
    own = section_of(book, name)[0]
    for beside in book[2]:
        if own in beside:
            return tuple([other for other in beside if other != own])
    return ()


def badge_of(book, name):
    """(SORT, NUMBER) of the badge of that NAME, None where there is none."""
    for called, sort, number in book[3]:
        if called == name:
            return (sort, number)
    return None


def stretch_at(book, piece):
    """The pair (NAME, k) of the STRETCH that has that PIECE, None where none has."""
    for section in book[0]:
        for k, own in enumerate(pieces_of(section)):
            if own == piece:
                return (section[0], k)
    return None


def book_pieces(book):
    """A list of the PIECES of all STRETCHES of a BOOK, in its order."""
    return [piece for section in book[0] for piece in pieces_of(section)]


def kept(old, new):
    """A rising list of the PIECES of both BOOKS."""
    return sorted(set(book_pieces(old)) & set(book_pieces(new)))


def lost(old, new):
    """A rising list of the PIECES of the old BOOK alone."""
    return sorted(set(book_pieces(old)) - set(book_pieces(new)))


def come(old, new):
    """A rising list of the PIECES of the new BOOK alone."""
    return lost(new, old)
