"""A desk: a club is told and asked by lines, each answered by a text."""

from pathbook.answers import (
    OF_A_WALKER, OF_THE_CLUB, OF_TWO_WALKERS, brings_text, closures_text, guide_text, list_text, ranked_text,
    standing_text, why_text,
)
from pathbook.club import Club
from pathbook.errors import BadLine, BadText, NoBook, NoSection, NotTold, SecondBook, TooMany
from pathbook.lists import RANKED_BY
from pathbook.reading import Line, read_legs, read_thing, take_name, take_number, things_in
from pathbook.words import LAST_DAY

THING_WORDS = ("book", "closed", "walk")


def take_last_day(line):
    """A DAY up to the end of the line, 9999 where none stands."""
    day = LAST_DAY if line.ended() else take_number(line, 0, LAST_DAY)
    line.end()
    return day


def say_thing(club, line):
    """Tell a THING, from its word on."""
    return "told" if club.tell(read_thing(line)) else "known"


def say_untell(club, line):
    """Untell a THING, from its word on."""
    club.untell(read_thing(line))
    return "untold"


def say_list(club, line):
    """List the THINGS, perhaps those of one word alone."""
    only = None if line.ended() else line.take(line.ahead() in THING_WORDS)
    line.end()
    return list_text(club, only)


def say_closures(club, line):
    """Tell when the SECTION of a NAME is closed."""
    name = take_name(line)
    line.end()
    return closures_text(club, name)


def say_guide(club, line):
    """Tell the BOOK OF a DAY."""
    return guide_text(club, take_last_day(line))


def say_why(club, line):
    """Tell the REASONS of LEGS of a DAY."""
    day = take_number(line, 0, LAST_DAY)
    return why_text(club, day, read_legs(line))


def say_brings(club, line):
    """Tell what a walk would bring."""
    if line.ahead() != "walk":
        line.refuse()
    return brings_text(club, read_thing(line))


def say_standing(club, line):
    """Tell the STANDING of a SECTION."""
    walker = take_name(line)
    name = take_name(line)
    return standing_text(club, walker, name, take_last_day(line))


def say_ranked(club, line):
    """Rank the WALKERS."""
    by = line.take(line.ahead() in RANKED_BY)
    return ranked_text(club, by, take_last_day(line))


# Each reads the words behind its own one.
BY_THEMSELVES = {
    "untell": say_untell, "list": say_list, "closures": say_closures, "guide": say_guide, "why": say_why,
    "brings": say_brings, "standing": say_standing, "ranked": say_ranked,
}


def answer_of_club(club, word, line):
    """The answer to a word that stands alone."""
    line.end()
    action = OF_THE_CLUB[word]
    return action(club)


def answer_of_walker(club, word, line):
    """The answer to a word with a WALKER behind it, and perhaps a DAY."""
    walker = take_name(line)
    day = take_last_day(line)
    action = OF_A_WALKER[word]
    return action(club, walker, day)


def answer_of_two(club, word, line):
    """The answer to a word with two WALKERS behind it, and perhaps a DAY."""
    first = take_name(line)
    other = take_name(line)
    day = take_last_day(line)
    action = OF_TWO_WALKERS[word]
    return action(club, first, other, day)


def answer(club, line):
    """The answer to a Line; BadText of a word that can't stand, else as the club refuses."""
    word = line.ahead()
    if word in THING_WORDS:
        return say_thing(club, line)
    if word in OF_THE_CLUB:
        return answer_of_club(club, line.take(True), line)
    if word in OF_A_WALKER:
        return answer_of_walker(club, line.take(True), line)
    if word in OF_TWO_WALKERS:
        return answer_of_two(club, line.take(True), line)
    line.take(word in BY_THEMSELVES)
    action = BY_THEMSELVES[word]
    return action(club, line)


class Desk:
    """A desk of a new club in which the THINGS of a text were told; BadText, SecondBook(day), TooMany(99)."""

    def __init__(self, things=""):
        self.own = Club(things_in(things))

    def said(self, line):
        """The answer to a line; BadLine of what is no text."""
        if not isinstance(line, str):
            raise BadLine("a line is a text")
        words = [word for word in line.split(" ") if word]
        try:
            return answer(self.own, Line(words, 1))
        except BadText as bad:
            return f"bad word {bad.word}"
        except SecondBook as second:
            return f"second book {second.day}"
        except TooMany:
            return "too many"
        except NotTold:
            return "not told"
        except NoBook as no_book:
            return f"no book {no_book.day}"
        except NoSection as no_section:
            return f"no section {no_section.name}"

    def club(self):
        """A Club alike, which goes on by itself."""
        return self.own.twin()

    def __len__(self):
        return len(self.own)


def all_said(lines, things=""):
    """A list of the answers of a new desk to a list of lines; refused as the desk and its lines are."""
    desk = Desk(things)
    return [desk.said(line) for line in lines]
