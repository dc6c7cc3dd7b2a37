"""PLANS, badges and WALKERS beside each other looked at in another, slower way, sentence by sentence."""

import itertools

from tests import naive_days, naive_legs

RIDE = ("ride",)


def ends(book, pair):
    """The two MARKS of a STRETCH, as a set."""
    for name, marks, stretches in book[0]:
        if name == pair[0]:
            return {marks[pair[1]], marks[pair[1] + 1]}


def in_book_order(book, pairs):
    return [(name, k) for name, marks, stretches in book[0] for k in range(len(stretches)) if (name, k) in pairs]


def bits(book, pairs):
    """BITS: each STRETCH with all that can be reached from it."""
    told = []
    for pair in in_book_order(book, pairs):
        bit = {pair}
        while True:
            marks = set().union(*[ends(book, one) for one in bit])
            more = {one for one in pairs if ends(book, one) & marks}
            if more == bit:
                break
            bit = more
        bit = tuple(in_book_order(book, bit))
        if bit not in told:
            told.append(bit)
    return told


def odd_marks(book, pairs):
    told = [mark for pair in pairs for mark in ends(book, pair)]
    return sorted(mark for mark in set(told) if told.count(mark) % 2 == 1)


def is_clear(book, bit, halts=None):
    halts = book[1] if halts is None else halts
    marks = set().union(*[ends(book, pair) for pair in bit])
    return bool(marks & set(halts)) and set(odd_marks(book, bit)) <= set(halts)


def wanted(book, bit):
    """The fewest MARKS, of such the least ones, by trying all."""
    marks = sorted(set().union(*[ends(book, pair) for pair in bit]))
    for many in range(len(marks) + 1):
        for some in itertools.combinations(marks, many):
            if is_clear(book, bit, tuple(book[1]) + some):
                return list(some)


def walks_needed(book, pairs):
    return sum(max(1, len(odd_marks(book, bit)) // 2) for bit in bits(book, pairs) if is_clear(book, bit))


def wrong_at(book, pairs, thing):
    """The NUMBER at which a tuple of anything is wrong as a PLAN, clause by clause; None of a PLAN."""
    if type(thing) is not tuple:
        return -1
    clear = [pair for bit in bits(book, pairs) if is_clear(book, bit) for pair in bit]
    gone = []
    for number, legs in enumerate(thing):
        good = type(legs) is tuple and all(type(leg) is tuple for leg in legs) and naive_legs.are_legs(legs) and RIDE not in legs
        good = good and all(naive_legs.would_count(book, leg, ()) for leg in legs)
        if not good or not naive_legs.is_sound(book, legs, ()):
            return number
        steps = [step for leg in legs for step in naive_legs.small_steps(book, leg)]
        if steps[0][3] not in book[1] or steps[-1][4] not in book[1]:
            return number
        for step in steps:
            if step[:2] not in clear or step[:2] in gone:
                return number
            gone.append(step[:2])
    if set(gone) != set(clear) or len(thing) > walks_needed(book, pairs):
        return len(thing)
    return None


def left(things, walker, day, more=()):
    """What is LEFT on a DAY that has a BOOK, some pairs of it being DONE besides."""
    book = naive_days.book_on(things, day)
    have = naive_days.covered(things, walker, day)
    own = {(name, k): piece for name, k, piece, length, is_done in naive_days.states(book, have)}
    return naive_days.left_in(book, have | {own[pair] for pair in more}, naive_days.closed_on(things, day))


def rounds_and_stuck(things, walker, day):
    """How many walks each of the ROUNDS has, and what is STUCK, BIT by BIT."""
    book, told, more = naive_days.book_on(things, day), [], set()
    while True:
        pairs = left(things, walker, day, more)
        if walks_needed(book, pairs) == 0:
            return told, pairs
        told.append(walks_needed(book, pairs))
        more |= {pair for bit in bits(book, pairs) if is_clear(book, bit) for pair in bit}


def is_free(things, walker, day):
    book = naive_days.book_on(things, day)
    if book is None:
        return False
    pairs = left(things, walker, day)
    return bool(pairs) and all(is_clear(book, bit) for bit in bits(book, pairs))


def held(things, walker, badge, day):
    """What is HELD AGAINST a badge of the BOOK OF a DAY."""
    book, have = naive_days.book_on(things, day), naive_days.covered(things, walker, day)
    if badge[1] == "length":
        return naive_days.share_in(book, have)[0]
    if badge[1] == "sections":
        return len(naive_days.finished_in(book, have))
    return naive_days.sums(things, walker, day)[{"climb": 2, "days": 0}[badge[1]]]


def gained(things, walker, last):
    """{NAME: DAY}, DAY by DAY where anything can change."""
    told = {}
    for day in naive_days.days_of(things):
        book = naive_days.book_on(things, day)
        for badge in book[3] if book is not None and day <= last else ():
            if badge[2] <= held(things, walker, badge, day):
                told.setdefault(badge[0], day)
    return told


def daytimes(book, legs, most):
    """The DAYTIMES, by trying all ways to part the LEGS, or None."""
    # Small LEGS of one STRETCH each, with the place of the LEG that they are of.
    small = []
    for place, leg in enumerate(legs):
        for step in naive_legs.small_steps(book, leg) if leg != RIDE else ():
            k = step[1]
            small.append((place, (leg[0], k, k + 1) if step[2] else (leg[0], k + 1, k), step))
    cuts = [
        at for at in range(1, len(small))
        if small[at - 1][2][4] in book[1] and small[at][2][3] in book[1]
    ]
    best = None
    for many in range(len(cuts) + 1):
        for some in itertools.combinations(cuts, many):
            bounds = (0,) + some + (len(small),)
            runs = [small[one:other] for one, other in zip(bounds, bounds[1:])]
            lengths = [sum(step[2][5] for step in run) for run in runs]
            if max(lengths) <= most and (best is None or lengths > best[0]):
                best = (lengths, runs)
        if best is not None:
            return [whole_legs(run, legs) for run in best[1]]
    return None


def whole_legs(run, legs):
    """LEGS of small ones: those of one LEG are one, RIDES stay between."""
    told, places = [], sorted({place for place, small, step in run})
    for place in range(places[0], places[-1] + 1):
        own = [small for one, small, step in run if one == place]
        told.append((own[0][0], own[0][1], own[-1][2]) if own else legs[place])
    return tuple(told)
