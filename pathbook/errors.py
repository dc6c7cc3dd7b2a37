"""The refusals: of what is handed in, of what isn't there, of what is too many."""


class PathError(ValueError):
    """Any refusal of what is handed in."""


class BadName(PathError):
    """What was handed in as a NAME is none."""


class BadDay(PathError):
    """What was handed in as a DAY is none."""


class BadSection(PathError):
    """What was handed in as a SECTION is none."""


class BadBook(PathError):
    """What was handed in as a BOOK is none; place is the PLACE of what isn't so."""

    def __init__(self, place):
        self.place = place


class BadLegs(PathError):
    """What was handed in as LEGS is none."""


class BadThing(PathError):
    """What was handed in as a THING is none."""


class SecondBook(PathError):
    """Another BOOK was told of a DAY that has one."""

    def __init__(self, day):
        self.day = day


class BadPlan(PathError):
    """What was handed in as a PLAN is wrong at the walk of that number."""

    def __init__(self, number):
        self.number = number


class BadText(PathError):
    """A text has no reading, from that word of that line on."""

    def __init__(self, line=0, word=0):
        self.line = line
        self.word = word


class BadLine(PathError):
    """What was handed in as a line for a desk is no text."""


class NotThere(LookupError):
    """Any refusal of what isn't there."""


class NoBook(NotThere):
    """There is no BOOK OF that DAY."""

    def __init__(self, day):
        self.day = day


class NoSection(NotThere):
    """The BOOK has no SECTION of that name, which may be anything."""

    def __init__(self, name):
        self.name = name


class NotTold(NotThere):
    """What was to be untold, or taken back, wasn't told."""


class TooMany(OverflowError):
    """There would be more than the most that there may be."""

    def __init__(self, most=99):
        self.most = most
