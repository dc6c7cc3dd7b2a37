"""Ways between MARKS, a list of pairs (MARK, MARK), gone each once in as few tours as can be."""


def ends_at(ways):
    """{MARK: the numbers of the ways that end there}."""
    found = {}
    for number, (one, other) in enumerate(ways):
        found.setdefault(one, []).append(number)
        found.setdefault(other, []).append(number)
    return found


def odd_among(ways):
    """A rising list of the MARKS at which an odd number of ways end."""
    found = ends_at(ways)
    return sorted([mark for mark in found if len(found[mark]) & 1])


def circle(ways, begin):
    """All ways, one behind the other from begin back to it: a list of pairs (number, FORTH).

    An even number of ways ends at each MARK, and each one can be reached.
    """
    found = ends_at(ways)
    gone = {}
    trail = [(begin, None)]
    steps = []
    while trail:
        mark, step = trail[-1]
        free = [number for number in found[mark] if number not in gone]
        if free:
            number = free[0]
            gone[number] = True
            one, other = ways[number]
            trail.append((other if mark == one else one, (number, mark == one)))
        else:
            # Nothing goes on from here: what led here is behind all that is still to be found.
            trail.pop()
            if step is not None:
                steps.append(step)
    return steps[::-1]


def parted(steps, many):
    """The steps of a circle, parted where one of a number from many on stands, which falls away."""
    cuts = [at for at, (number, forth) in enumerate(steps) if number >= many]
    if not cuts:
        return [steps]
    turned = steps[cuts[0] + 1:] + steps[:cuts[0] + 1]
    tours = [[]]
    for step in turned[:-1]:
        if step[0] < many:
            tours[-1].append(step)
        else:
            tours.append([])
    return tours


def tours_of(ways, begin):
    """A list of tours, lists of pairs (number, FORTH), that go each way once, each of which can be reached.

    Each begins and ends at a MARK where an odd number of ways end, or, where there is none, at begin.
    """
    odd = odd_among(ways)
    # Ways between two odd MARKS each make all even; no two of them meet, so no tour between them is empty.
    helping = list(zip(odd[::2], odd[1::2]))
    return parted(circle(ways + helping, odd[0] if odd else begin), len(ways))
