"""LEGS looked at in another, slower way: clause by clause, and STRETCH by STRETCH."""

RIDE = ("ride",)


def are_legs(legs):
    """Whether a tuple of tuples of texts and whole numbers is LEGS."""
    for leg in legs:
        if leg == RIDE:
            continue
        if len(leg) != 3 or not isinstance(leg[0], str) or not 1 <= len(leg[0]) <= 8:
            return False
        if any(sign not in "abcdefghijklmnopqrstuvwxyz" for sign in leg[0]):
            return False
        if leg[1] not in range(8) or leg[2] not in range(8) or leg[1] == leg[2]:
            return False
    kinds = "".join("r" if leg == RIDE else "l" for leg in legs)
    return 1 <= len(kinds) <= 60 and kinds.strip("r") == kinds and "rr" not in kinds


def would_count(book, leg, closed):
    """Whether a LEG, as the only one, counts."""
    if leg == RIDE or leg[0] in (closed or ()):
        return False
    return any(name == leg[0] and leg[1] < len(marks) and leg[2] < len(marks) for name, marks, stretches in book[0])


def small_steps(book, leg):
    """(NAME, k, FORTH, MARK, MARK, LENGTH, CLIMB, FALL) of each STRETCH that a LEG which counts passes."""
    name, marks, stretches = [section for section in book[0] if section[0] == leg[0]][0]
    at, told = leg[1], []
    while at != leg[2]:
        to = at + 1 if at < leg[2] else at - 1
        k = min(at, to)
        length, up, down = stretches[k]
        climb, fall = (up, down) if to > at else (down, up)
        told.append((name, k, to > at, marks[at], marks[to], length, climb, fall))
        at = to
    return told


def is_sound(book, legs, closed):
    for one, other in zip(legs, legs[1:]):
        if would_count(book, one, closed) and would_count(book, other, closed):
            if small_steps(book, one)[-1][4] != small_steps(book, other)[0][3]:
                return False
    return True


def all_counted(book, legs, closed):
    return [leg for leg in legs if would_count(book, leg, closed)] if is_sound(book, legs, closed) else []


def all_steps(book, legs, closed):
    """The small steps of all LEGS that count."""
    return [step for leg in all_counted(book, legs, closed) for step in small_steps(book, leg)]


def all_trails(book, legs, closed):
    """The MARKS of each run."""
    if not is_sound(book, legs, closed):
        return []
    runs = [[]]
    for leg in legs:
        if would_count(book, leg, closed):
            runs[-1].extend(small_steps(book, leg))
        else:
            runs.append([])
    return [[run[0][3]] + [step[4] for step in run] for run in runs if run]


def all_shortened(legs):
    """Two LEGS at a time, as long as there are any."""
    legs = list(legs)
    for k in range(len(legs) - 1):
        one, other = legs[k], legs[k + 1]
        if RIDE in (one, other) or one[0] != other[0] or one[2] != other[1]:
            continue
        if one[1] < one[2] < other[2] or one[1] > one[2] > other[2]:
            return all_shortened(legs[:k] + [(one[0], one[1], other[2])] + legs[k + 2:])
    return tuple(legs)
