"""LEGS by themselves and by one BOOK, and Walks."""

from pathbook.books import section_of
from pathbook.errors import BadLegs, TooMany
from pathbook.showing import thing_text
from pathbook.words import LAST_MARK, MOST_LEGS, RIDE, is_name, is_tuple, is_whole, need_day, need_name


def is_ride(thing):
    """Whether anything is a RIDE."""
    # What is no text is not compared: it could be equal to "ride" by its own rules.
    return is_tuple(thing, 1, 1) and isinstance(thing[0], str) and thing == RIDE


def is_leg(thing):
    """Whether anything is a LEG."""
    if not is_tuple(thing, 3, 3):
        return False
    name, i, j = thing
    return is_name(name) and is_whole(i, 0, LAST_MARK) and is_whole(j, 0, LAST_MARK) and i != j


def is_legs(thing):
    """Whether anything is LEGS."""
    if not is_tuple(thing, 1, MOST_LEGS) or not all([is_leg(one) or is_ride(one) for one in thing]):
        return False
    rides = [is_ride(one) for one in thing]
    beside = [one and other for one, other in zip(rides, rides[1:])]
    return not rides[0] and not rides[-1] and not any(beside)


def need_legs(thing):
    """Refuse with BadLegs what is no LEGS."""
    if not is_legs(thing):
        raise BadLegs("LEGS are a tuple of 1 to 60 LEGS and RIDES")


def steps_of(leg):
    """A list of pairs (k, FORTH): the STRETCHES that a LEG passes, in that order."""
    name, i, j = leg
    if i < j:
        return [(k, True) for k in range(i, j)]
    return [(k, False) for k in range(i - 1, j - 1, -1)]


def reaches(section, leg):
    """Whether a SECTION has more MARKS than both numbers of a LEG."""
    return max(leg[1], leg[2]) < len(section[1])


def measure(section, leg):
    """(LENGTH, CLIMB, FALL) of a LEG of a SECTION, None where that has too few MARKS."""
    if not reaches(section, leg):
        return None
    length = climb = fall = 0
    for k, forth in steps_of(leg):
        far, up, down = section[2][k]
        length += far
        climb += up if forth else down
        fall += down if forth else up
    return (length, climb, fall)


def turned(legs):
    """The LEGS TURNED ABOUT."""
    return tuple([leg if leg == RIDE else (leg[0], leg[2], leg[1]) for leg in legs[::-1]])


def are_one(one, other):
    """Whether two LEGS next to each other, RIDES too, are made one where they are SHORTENED."""
    if one == RIDE or other == RIDE or one[0] != other[0] or one[2] != other[1]:
        return False
    return (one[1] < one[2]) == (other[1] < other[2])


def shortened(legs):
    """The LEGS SHORTENED."""
    short = []
    for leg in legs:
        if short and are_one(short[-1], leg):
            short[-1] = (leg[0], short[-1][1], leg[2])
        else:
            short.append(leg)
    return tuple(short)


def section_for(book, leg, closed):
    """The SECTION by which a LEG would count, None where it wouldn't, and of a RIDE."""
    if leg == RIDE or (closed is not None and leg[0] in closed):
        return None
    for section in book[0]:
        if section[0] == leg[0] and reaches(section, leg):
            return section
    return None


def from_to(book, leg, closed=None):
    """The MARKS at which a LEG that would count begins and ends, None of another one."""
    section = section_for(book, leg, closed)
    if section is None:
        return None
    marks = section[1]
    return (marks[leg[1]], marks[leg[2]])


def are_joined(one, other):
    """Whether of two pairs of MARKS, None of what wouldn't count, the second goes on from the first."""
    return one is not None and other is not None and one[1] == other[0]


def first_break(book, legs, closed=None):
    """The place of the first LEG that would count and isn't joined with the next one, which would, too; or None."""
    ends = [from_to(book, leg, closed) for leg in legs]
    for place, (one, other) in enumerate(zip(ends, ends[1:])):
        if one is not None and other is not None and not are_joined(one, other):
            return place
    return None


def meets(book, legs, closed=None):
    """Whether the LEGS are SOUND."""
    return first_break(book, legs, closed) is None


def counted(book, legs, closed=None):
    """A list of the LEGS that COUNT."""
    if not meets(book, legs, closed):
        return []
    return [leg for leg in legs if section_for(book, leg, closed) is not None]


def passed(book, legs, closed=None):
    """A list of triples (NAME, k, FORTH) of the STRETCHES that the LEGS which COUNT pass."""
    return [(leg[0], k, forth) for leg in counted(book, legs, closed) for k, forth in steps_of(leg)]


def sums_of(book, legs, closed=None):
    """(LENGTH, CLIMB, FALL) of the LEGS that COUNT together."""
    found = [measure(section_of(book, leg[0]), leg) for leg in counted(book, legs, closed)]
    length = sum([one[0] for one in found])
    climb = sum([one[1] for one in found])
    fall = sum([one[2] for one in found])
    return (length, climb, fall)


def marks_by(section, leg):
    """A list of the MARKS that a LEG goes by, from its begin to its end."""
    marks = section[1]
    return [marks[leg[1]]] + [marks[k + 1] if forth else marks[k] for k, forth in steps_of(leg)]


def trails(book, legs, closed=None):
    """A list of lists of MARKS, one for each run of LEGS next to each other that COUNT."""
    if not meets(book, legs, closed):
        return []
    runs = []
    goes_on = False
    for leg in legs:
        section = section_for(book, leg, closed)
        if section is None:
            goes_on = False
        elif goes_on:
            # The begin of this LEG is the end of the one ahead, which stands there.
            runs[-1].extend(marks_by(section, leg)[1:])
        else:
            runs.append(marks_by(section, leg))
            goes_on = True
    return runs


def behind(book, first, second, closed=None):
    """Two LEGS PUT BEHIND each other; TooMany(60)."""
    joined = are_joined(from_to(book, first[-1], closed), from_to(book, second[0], closed))
    legs = first + second if joined else first + (RIDE,) + second
    if len(legs) > MOST_LEGS:
        raise TooMany(MOST_LEGS)
    return legs


class Walk:
    """LEGS that a WALKER walked on a DAY; BadDay, BadName, BadLegs."""

    def __init__(self, day, walker, legs):
        need_day(day)
        need_name(walker)
        need_legs(legs)
        self.day = day
        self.walker = walker
        self.legs = legs

    def thing(self):
        """The THING of this Walk."""
        return ("walk", self.day, self.walker, self.legs)

    def about(self):
        """A Walk of the same DAY and WALKER, its LEGS TURNED ABOUT."""
        return Walk(self.day, self.walker, turned(self.legs))

    def again(self, day=None, walker=None):
        """A Walk of the same LEGS, of another DAY, of another WALKER; BadDay, BadName."""
        other_day = self.day if day is None else day
        other_walker = self.walker if walker is None else walker
        return Walk(other_day, other_walker, self.legs)

    def __len__(self):
        return len([leg for leg in self.legs if leg != RIDE])

    def __str__(self):
        return str(thing_text(self.thing()))

    def __eq__(self, other):
        return (
            isinstance(other, Walk) and self.day == other.day
            and self.walker == other.walker and self.legs == other.legs
        )


def in_order(walks):
    """A new list of Walks, rising as their THINGS do, of equal ones the first alone."""
    ordered = []
    for walk in sorted(walks, key=lambda one: one.thing()):
        if not ordered or ordered[-1] != walk:
            ordered.append(walk)
    return ordered
