"""What is DONE, EXCUSED and LEFT in one BOOK by one who has covered some PIECES, a list."""

from pathbook.books import besides_of, pieces_of, section_of, whole_of


def stretch_states(book, pieces):
    """A list of triples (NAME, k, whether it is DONE) of all STRETCHES, in the order of the BOOK."""
    have = {piece: True for piece in pieces}
    return [
        (section[0], k, piece in have) for section in book[0] for k, piece in enumerate(pieces_of(section))
    ]


def stretches_done(book, pieces):
    """A list of the pairs (NAME, k) of the STRETCHES DONE."""
    return [(name, k) for name, k, is_done in stretch_states(book, pieces) if is_done]


def sections_done(book, pieces):
    """A list of the NAMES of the SECTIONS DONE."""
    lacking = {name: True for name, k, is_done in stretch_states(book, pieces) if not is_done}
    return [section[0] for section in book[0] if section[0] not in lacking]


def sections_excused(book, pieces):
    """A list of the NAMES of the SECTIONS EXCUSED."""
    ended = sections_done(book, pieces)
    found = []
    for section in book[0]:
        name = section[0]
        beside = [other for other in besides_of(book, name) if other in ended]
        if name not in ended and beside:
            found.append(name)
    return found


def stretches_left(book, pieces, closed):
    """A list of the pairs (NAME, k) of the STRETCHES LEFT, where the SECTIONS of the NAMES closed are."""
    out = sections_done(book, pieces) + sections_excused(book, pieces) + list(closed)
    return [(name, k) for name, k, is_done in stretch_states(book, pieces) if not is_done and name not in out]


def standing_in(book, pieces, closed, name):
    """The STANDING of the SECTION of that NAME; NoSection(name)."""
    section_of(book, name)
    if name in sections_done(book, pieces):
        return "done"
    if name in sections_excused(book, pieces):
        return "excused"
    if name in closed:
        return "closed"
    begun = [called for called, k in stretches_done(book, pieces)]
    return "begun" if name in begun else "open"


def length_done(book, pieces):
    """The LENGTH of all STRETCHES DONE together."""
    return sum([section_of(book, name)[2][k][0] for name, k in stretches_done(book, pieces)])


def length_of(book):
    """The LENGTH of all STRETCHES of a BOOK together."""
    return sum([whole_of(section)[0] for section in book[0]])
