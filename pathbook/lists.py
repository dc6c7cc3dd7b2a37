"""DAYTIMES of LEGS, and WALKERS beside each other."""

from pathbook.books import section_of
from pathbook.calendar import closed_names, need_book_of, walks_of
from pathbook.covered import covered, sums
from pathbook.doing import stretches_left
from pathbook.errors import BadLegs, BadName
from pathbook.legs import counted, marks_by, need_legs, steps_of
from pathbook.walked import days_walked, pieces_in, rows_up_to, steps_on
from pathbook.words import RIDE, is_name, need_day, need_name

RANKED_BY = ("pieces", "days", "length", "climb")


class Step:
    """One STRETCH on the way of LEGS: the place of its LEG, the LEG that passes it alone, its MARKS and LENGTH."""

    def __init__(self, place, leg, marks, length):
        self.place = place
        self.leg = leg
        self.marks = marks
        self.length = length


def steps_in(book, place, leg):
    """A list of the Steps of a LEG that counts."""
    section = section_of(book, leg[0])
    marks = marks_by(section, leg)
    steps = []
    for at, (k, forth) in enumerate(steps_of(leg)):
        small = (leg[0], k, k + 1) if forth else (leg[0], k + 1, k)
        steps.append(Step(place, small, (marks[at], marks[at + 1]), section[2][k][0]))
    return steps


def can_part(halts, one, other):
    """Whether the way may be parted between two Steps next to each other."""
    # Without a RIDE between them both MARKS are one.
    return one.marks[1] in halts and other.marks[0] in halts


def farthest(book, steps, begin, most):
    """The number behind the last Step that one DAYTIME from begin on can have, None where it can have none."""
    found = None
    length = 0
    for at in range(begin, len(steps)):
        length += steps[at].length
        if length > most:
            break
        if at + 1 == len(steps) or can_part(book[1], steps[at], steps[at + 1]):
            found = at + 1
    return found


def legs_from(steps):
    """The LEGS that Steps next to each other are of, with the RIDES between them."""
    legs = []
    ahead = None
    for step in steps:
        if ahead is not None and step.place == ahead:
            legs[-1] = (step.leg[0], legs[-1][1], step.leg[2])
        else:
            # Between two LEGS whose places aren't next to each other there was a RIDE.
            if ahead is not None and step.place > ahead + 1:
                legs.append(RIDE)
            legs.append(step.leg)
        ahead = step.place
    return tuple(legs)


def daytimes(book, legs, most):
    """A list of the DAYTIMES of at most that LENGTH, None where there are none; BadLegs."""
    need_legs(legs)
    if counted(book, legs) != [leg for leg in legs if leg != RIDE]:
        raise BadLegs("a LEG doesn't COUNT")
    steps = [step for place, leg in enumerate(legs) if leg != RIDE for step in steps_in(book, place, leg)]
    found = []
    begin = 0
    # To go as far as one can is best: whatever goes on from nearer can go on from there, too.
    while begin < len(steps):
        end = farthest(book, steps, begin, most)
        if end is None:
            return None
        found.append(legs_from(steps[begin:end]))
        begin = end
    return found


def need_walkers(thing):
    """Refuse with BadName what is no tuple of NAMES."""
    if not isinstance(thing, tuple) or not all([is_name(walker) for walker in thing]):
        raise BadName("WALKERS are a tuple of NAMES")


def compared(club, first, other, day=9999):
    """The PIECES covered by both, by first alone, by other alone, three rising tuples; BadName, BadDay."""
    need_name(first)
    need_name(other)
    one = covered(club.things(), first, day)
    two = covered(club.things(), other, day)
    both = tuple(sorted(set(one) & set(two)))
    return (both, tuple(sorted(set(one) - set(two))), tuple(sorted(set(two) - set(one))))


def pieces_together(club, walkers, day=9999):
    """A rising list of the PIECES that WALKERS have covered TOGETHER; BadName, BadDay."""
    need_walkers(walkers)
    need_day(day)
    things = club.things()
    return sorted(set([piece for walker in walkers for piece in covered(things, walker, day)]))


def left_together(club, walkers, day=9999):
    """The pairs (NAME, k) LEFT to one who has covered all of these; BadName, BadDay, NoBook(day)."""
    pieces = pieces_together(club, walkers, day)
    things = club.things()
    return stretches_left(need_book_of(things, day), pieces, closed_names(things, day))


def part_on(club, first, other, day=9999):
    """The DAY on which two WALKERS PART, None where they don't up to day; BadName, BadDay."""
    need_name(first)
    need_name(other)
    one = days_walked(club.things(), first, day)
    two = days_walked(club.things(), other, day)
    for today in sorted(set([row[0] for row in one + two])):
        if pieces_in(rows_up_to(one, today)) != pieces_in(rows_up_to(two, today)):
            return today
    return None


def passed_on_days(things, walker, last):
    """A list of pairs (DAY, PIECE) of what a WALKER passed on DAYS not beyond last; BadName, BadDay."""
    return [(day, piece) for day, legs in walks_of(things, walker, last) for piece, out in steps_on(things, day, legs)]


def meetings(club, first, other, day=9999):
    """A rising list of the DAYS not beyond day on which two WALKERS MEET; BadName, BadDay."""
    need_name(first)
    need_name(other)
    things = club.things()
    both = sorted(set(passed_on_days(things, first, day)) & set(passed_on_days(things, other, day)))
    return sorted(set([today for today, piece in both]))


def rank_of(things, walker, by, day):
    """The NUMBER by which a WALKER is ranked."""
    if by == "pieces":
        return len(covered(things, walker, day))
    days, length, climb, fall = sums(things, walker, day)
    if by == "days":
        return days
    return length if by == "length" else climb


def ranked(club, by="pieces", day=9999):
    """A list of pairs (NUMBER, WALKER), the greatest NUMBER first; BadName of another word, BadDay."""
    if not isinstance(by, str) or by not in RANKED_BY:
        raise BadName("WALKERS are ranked by pieces, days, length or climb")
    need_day(day)
    rows = [(rank_of(club.things(), walker, by, day), walker) for walker in club.walkers()]
    return sorted(rows, key=lambda row: (-row[0], row[1]))
