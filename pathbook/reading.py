"""BOOKS, LEGS and THINGS read from texts; BadText of what has no reading."""

from pathbook.books import HOW_MANY, MOST_BESIDE, MOST_MARKS, SORTS, are_marks, halt_fits, names_of
from pathbook.errors import BadText
from pathbook.words import LAST_DAY, LAST_MARK, MOST_LEGS, RIDE, is_name, number_in, rows_of


class Line:
    """The words of one line, taken one behind the other."""

    def __init__(self, words, number):
        self.words = words
        self.number = number
        self.at = 0

    def ended(self):
        """Whether all words are taken."""
        return self.at == len(self.words)

    def ahead(self):
        """The next word; behind the last one "", which can stand nowhere."""
        return "" if self.ended() else self.words[self.at]

    def refuse(self):
        """Refuse the next word, or that words lack."""
        raise BadText(self.number, self.at + 1)

    def take(self, fits):
        """Take the next word; it is refused where it doesn't fit."""
        if not fits:
            self.refuse()
        word = self.ahead()
        self.at += 1
        return word

    def passes(self, words):
        """Whether these words, a list, are the next ones; they are taken where they are."""
        if self.words[self.at:self.at + len(words)] != words:
            return False
        self.at += len(words)
        return True

    def end(self):
        """Refuse a word too many."""
        if not self.ended():
            self.refuse()


def take_name(line, taken=()):
    """A NAME that is none of those taken already."""
    word = line.ahead()
    return line.take(is_name(word) and word not in taken)


def take_number(line, least, most):
    """A whole number from least to most."""
    number = number_in(line.ahead(), most)
    line.take(number is not None and number >= least)
    return number


def part_goes_on(line):
    """Whether a word of the same part of a BOOK is the next one."""
    return line.ahead() not in ("", "/")


def has_room(found, four):
    """Whether that one of the four of a BOOK may have more than was found."""
    return len(found) < HOW_MANY[four][1]


def read_stretch(line):
    """A STRETCH."""
    length = take_number(line, 1, 999)
    up = take_number(line, 0, 999)
    down = take_number(line, 0, 999)
    return (length, up, down)


def read_section(line, sections):
    """A SECTION behind those ahead of it, from its NAME on."""
    name = take_name(line, names_of(sections))
    marks = (take_name(line),)
    stretches = []
    while not stretches or part_goes_on(line):
        # The number ahead of a ninth MARK can't stand: no MARK may follow.
        if len(marks) == MOST_MARKS:
            line.refuse()
        stretches.append(read_stretch(line))
        longer = marks + (line.ahead(),)
        line.take(are_marks(longer))
        marks = longer
    return (name, marks, tuple(stretches))


def read_halts(line, sections):
    """HALTS, at least one, from the first one on."""
    halts = ()
    while not halts or part_goes_on(line):
        longer = halts + (line.ahead(),)
        line.take(has_room(halts, 1) and halt_fits(sections, longer, len(halts)))
        halts = longer
    return halts


def free_names(sections, besides):
    """The NAMES of the SECTIONS that stand beside none."""
    taken = [name for beside in besides for name in beside]
    return [name for name in names_of(sections) if name not in taken]


def read_beside(line, free):
    """One of BESIDES, of NAMES that are free, from the first one on."""
    beside = []
    while len(beside) < 2 or part_goes_on(line):
        word = line.ahead()
        fits = len(beside) < MOST_BESIDE and word in free and word not in beside
        beside.append(line.take(fits))
    return tuple(beside)


def read_besides(line, sections):
    """All BESIDES that follow, perhaps none."""
    besides = []
    free = free_names(sections, besides)
    # With fewer than two that are free "beside" itself can't stand.
    while len(free) >= 2 and line.passes(["/", "beside"]):
        besides.append(read_beside(line, free))
        free = free_names(sections, besides)
    return tuple(besides)


def read_badge(line, badges):
    """A badge behind those ahead of it, from its NAME on."""
    name = take_name(line, names_of(badges))
    sort = line.take(line.ahead() in SORTS)
    number = take_number(line, 1, 99999)
    return (name, sort, number)


def read_badges(line):
    """All badges that follow, perhaps none, up to the end of the line."""
    badges = []
    while has_room(badges, 3) and line.passes(["/", "badge"]):
        badges.append(read_badge(line, badges))
    # As long as a badge could follow "/" can stand, and what is behind it can't.
    if has_room(badges, 3) and line.passes(["/"]):
        line.refuse()
    line.end()
    return tuple(badges)


def read_book(line):
    """A BOOK, up to the end of the line."""
    line.take(line.ahead() == "section")
    sections = [read_section(line, [])]
    while has_room(sections, 0) and line.passes(["/", "section"]):
        sections.append(read_section(line, sections))
    halts = ()
    if line.passes(["/", "halts"]):
        halts = read_halts(line, sections)
    besides = read_besides(line, sections)
    return (tuple(sections), halts, besides, read_badges(line))


def read_leg(line):
    """A LEG."""
    name = take_name(line)
    i = take_number(line, 0, LAST_MARK)
    j = number_in(line.ahead(), LAST_MARK)
    line.take(j is not None and j != i)
    return (name, i, j)


def read_legs(line):
    """LEGS, up to the end of the line."""
    legs = [read_leg(line)]
    while not line.ended():
        if len(legs) == MOST_LEGS:
            line.refuse()
        # A RIDE wants room for itself and for a LEG behind it.
        if len(legs) + 2 <= MOST_LEGS and line.passes(["/"]):
            legs.append(RIDE)
        legs.append(read_leg(line))
    return tuple(legs)


def read_closed(line):
    """A closing, from its NAME on, up to the end of the line."""
    name = take_name(line)
    first = take_number(line, 0, LAST_DAY)
    last = take_number(line, first, LAST_DAY)
    line.end()
    return ("closed", name, first, last)


def read_thing(line):
    """A THING, up to the end of the line."""
    word = line.take(line.ahead() in ("book", "closed", "walk"))
    if word == "closed":
        return read_closed(line)
    day = take_number(line, 0, LAST_DAY)
    if word == "book":
        return ("book", day, read_book(line))
    walker = take_name(line)
    return ("walk", day, walker, read_legs(line))


def need_rows(text):
    """The rows of a text; BadText of what is none."""
    if not isinstance(text, str):
        raise BadText(0, 0)
    return rows_of(text)


def lines_in(rows, first):
    """The Lines of those rows that have words, the first row being of that number."""
    return [Line(words, first + at) for at, words in enumerate(rows) if words]


def read_alone(text, first, read):
    """What read tells of the only line that a text has."""
    rows = need_rows(text)
    lines = lines_in(rows, first)
    if not lines:
        raise BadText(first + len(rows), 1)
    told = read(lines[0])
    if len(lines) > 1:
        lines[1].refuse()
    return told


def book_in(text, first=1):
    """The BOOK of a text; BadText."""
    return read_alone(text, first, read_book)


def legs_in(text, first=1):
    """The LEGS of a text; BadText."""
    return read_alone(text, first, read_legs)


def thing_in(text, first=1):
    """The THING of a text; BadText."""
    return read_alone(text, first, read_thing)


def things_in(text, first=1):
    """A tuple of the THINGS of a text, however many; BadText."""
    return tuple([read_thing(line) for line in lines_in(need_rows(text), first)])
