"""A club: THINGS told, untold and taken back, and what is asked of them."""

from pathbook.calendar import need_book_of, put_in, taken_out
from pathbook.covered import covered, done, excused, finished, left, sums
from pathbook.errors import BadThing, NotTold
from pathbook.idling import idle_among, lean_of
from pathbook.words import need_day


def begin_of(thing):
    """The DAY on which a THING BEGINS."""
    return thing[2] if thing[0] == "closed" else thing[1]


def first_things(things):
    """The THINGS with which a Club is made, () of None; BadThing."""
    if things is None:
        return ()
    if not isinstance(things, tuple):
        raise BadThing("THINGS are a tuple")
    return things


def many_of(things, word):
    """How many THINGS are of the kind of that word."""
    return len([thing for thing in things if thing[0] == word])


def kinds_text(things):
    """How many THINGS there are of each kind."""
    books = many_of(things, "book")
    closings = many_of(things, "closed")
    walks = many_of(things, "walk")
    return f"{books} books, {closings} closings, {walks} walks"


def undone(things, change):
    """The THINGS ahead of a change, the last one that was made."""
    word, thing = change
    return taken_out(things, thing) if word == "told" else put_in(things, thing)


class Club:
    """The THINGS that are told in a club, and its CHANGES; BadThing, SecondBook(day), TooMany(99)."""

    def __init__(self, things=None):
        self.now = ()
        self.log = []
        for thing in first_things(things):
            self.tell(thing)

    def tell(self, thing):
        """Tell a THING: True where it wasn't told, else False; BadThing, SecondBook(day), TooMany(99)."""
        more = put_in(self.now, thing)
        if len(more) == len(self.now):
            return False
        self.now = more
        self.log.append(("told", thing))
        return True

    def untell(self, thing):
        """Untell a THING; BadThing, NotTold."""
        self.now = taken_out(self.now, thing)
        self.log.append(("untold", thing))

    def take_back(self):
        """Undo the last one of the CHANGES, and tell it; NotTold."""
        if not self.log:
            raise NotTold("there is no change")
        change = self.log.pop()
        self.now = undone(self.now, change)
        return change

    def things(self):
        """A tuple of the THINGS told, in their order."""
        return self.now

    def changes(self):
        """A list of the CHANGES, pairs (WORD, THING)."""
        return list(self.log)

    def walkers(self):
        """A rising list of the WALKERS of whom a walk is told."""
        return sorted(set([thing[2] for thing in self.now if thing[0] == "walk"]))

    def idle(self):
        """A list of the THINGS that are IDLE, in their order."""
        return idle_among(self.now)

    def book_of(self, day=9999):
        """The BOOK OF that DAY; BadDay, NoBook(day)."""
        return need_book_of(self.now, day)

    def covered(self, walker, day=9999):
        """As covered tells of the THINGS."""
        return covered(self.now, walker, day)

    def done(self, walker, day=9999):
        """As done tells of the THINGS."""
        return done(self.now, walker, day)

    def left(self, walker, day=9999):
        """As left tells of the THINGS."""
        return left(self.now, walker, day)

    def finished(self, walker, day=9999):
        """As finished tells of the THINGS."""
        return finished(self.now, walker, day)

    def excused(self, walker, day=9999):
        """As excused tells of the THINGS."""
        return excused(self.now, walker, day)

    def sums(self, walker, day=9999, since=0):
        """As sums tells of the THINGS."""
        return sums(self.now, walker, day, since)

    def news(self, walker, day=9999):
        """The PIECES that came and those that went by the last one of the CHANGES; BadName, BadDay."""
        has = covered(self.now, walker, day)
        ahead = undone(self.now, self.log[-1]) if self.log else self.now
        had = covered(ahead, walker, day)
        return (sorted(set(has) - set(had)), sorted(set(had) - set(has)))

    def twin(self):
        """A Club of the same THINGS and CHANGES."""
        other = Club()
        other.now = self.now
        other.log = list(self.log)
        return other

    def up_to(self, day):
        """A Club of the THINGS that BEGIN not beyond that DAY; BadDay."""
        need_day(day)
        return Club(tuple([thing for thing in self.now if begin_of(thing) <= day]))

    def lean(self):
        """A Club without THINGS that are IDLE."""
        return Club(lean_of(self.now))

    def __len__(self):
        return len(self.now)

    def __str__(self):
        return str(kinds_text(self.now))

    def __eq__(self, other):
        return isinstance(other, Club) and self.now == other.now


def merged(clubs):
    """A Club in which the THINGS of all Clubs of a tuple are told; SecondBook(day), TooMany(99)."""
    whole = Club()
    for club in clubs:
        for thing in club.things():
            whole.tell(thing)
    return whole
