"""BOOKS, LEGS and THINGS as texts."""

from pathbook.words import RIDE


def section_text(section):
    """The part of a SECTION in the line of a BOOK."""
    name, marks, stretches = section
    words = ["section", name, marks[0]]
    for (length, up, down), mark in zip(stretches, marks[1:]):
        words.append(f"{length} {up} {down} {mark}")
    return " ".join(words)


def named_text(word, names):
    """The part that begins with that word, of HALTS or of one of BESIDES."""
    return " ".join([word] + list(names))


def book_text(book):
    """The line of a BOOK."""
    sections, halts, besides, badges = book
    parts = [section_text(section) for section in sections]
    if halts:
        parts.append(named_text("halts", halts))
    parts.extend([named_text("beside", beside) for beside in besides])
    parts.extend([f"badge {name} {sort} {number}" for name, sort, number in badges])
    return " / ".join(parts)


def leg_text(leg):
    """The words of a LEG or of a RIDE in the line of LEGS."""
    if leg == RIDE:
        return "/"
    name, i, j = leg
    return f"{name} {i} {j}"


def legs_text(legs):
    """The line of LEGS."""
    return " ".join([leg_text(leg) for leg in legs])


def thing_text(thing):
    """The line of a THING."""
    word = thing[0]
    if word == "book":
        return f"book {thing[1]} {book_text(thing[2])}"
    if word == "closed":
        return f"closed {thing[1]} {thing[2]} {thing[3]}"
    return f"walk {thing[1]} {thing[2]} {legs_text(thing[3])}"


def things_text(things, only=None):
    """The lines of THINGS, of those alone that begin with the word only where it isn't None."""
    return "\n".join([thing_text(thing) for thing in things if only is None or thing[0] == only])
