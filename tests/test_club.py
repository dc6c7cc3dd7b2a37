"""The Club: telling, untelling, taking back, what is asked of it, what is IDLE, twins, and clubs merged."""

import itertools
import random
import unittest

from pathbook import covered as asked
from pathbook.calendar import put_in
from pathbook.club import Club, merged
from pathbook.errors import BadDay, BadName, BadThing, NoBook, NotTold, SecondBook, TooMany
from pathbook.reading import things_in
from pathbook.showing import things_text
from tests import naive_days
from tests.sample_texts import EVERY_LEGS
from tests.sample_things import DAYS, WALKERS, some_things
from tests.samples import ANYTHING, BOOK, NO_KEYS, PLAIN, Like
from tests.test_calendar_things import NO_THINGS

STRANGE = ANYTHING + NO_KEYS
NO_DAYS = STRANGE + (10000, "5", (5,))
NO_NAMES = STRANGE + (5, "Ann", "ann ", ("ann",))

RIDE = ("ride",)
BOOK_THING = ("book", 5, BOOK)
CLOSED = ("closed", "north", 3, 9)
WALK = ("walk", 12, "ann", (("north", 0, 2),))
OTHER = ("walk", 13, "ben", (("north", 0, 1),))
NINETY = tuple(sorted(("walk", 5, "ann", legs) for legs in EVERY_LEGS if len(legs) == 1))[:99]


def state(club):
    return (club.things(), club.changes())


class Telling(unittest.TestCase):
    def test_made(self):
        for club in (Club(), Club(None), Club(()), Club(things=None), Club(things=())):
            self.assertEqual(state(club), ((), []))
        club = Club((WALK, BOOK_THING, CLOSED, WALK))
        self.assertEqual(state(club), ((BOOK_THING, CLOSED, WALK), [("told", WALK), ("told", BOOK_THING), ("told", CLOSED)]))

    def test_made_of_what_is_refused(self):
        for things in STRANGE + ("book", [WALK], {WALK: 1}, 5, iter((WALK,)), Club()):
            if things is not None and things != ():
                with self.assertRaises(BadThing):
                    Club(things)
        for bad in STRANGE + NO_THINGS:
            with self.assertRaises(BadThing):
                Club((WALK, bad))
        with self.assertRaises(SecondBook) as caught:
            Club((BOOK_THING, ("book", 5, PLAIN), None))
        self.assertEqual(caught.exception.day, 5)
        with self.assertRaises(BadThing):
            Club((BOOK_THING, None, ("book", 5, PLAIN)))
        with self.assertRaises(TooMany) as caught:
            Club(NINETY + (CLOSED, None))
        self.assertEqual(caught.exception.most, 99)
        self.assertEqual(len(Club(NINETY + NINETY)), 99)

    def test_tell(self):
        club = Club()
        for thing in (WALK, CLOSED, BOOK_THING):
            self.assertIs(club.tell(thing), True)
            self.assertIs(club.tell(thing), False)
        self.assertIs(club.tell(thing=OTHER), True)
        self.assertEqual(club.things(), (BOOK_THING, CLOSED, WALK, OTHER))
        self.assertEqual(club.changes(), [("told", WALK), ("told", CLOSED), ("told", BOOK_THING), ("told", OTHER)])

    def test_tell_refused(self):
        club = Club((BOOK_THING,) + NINETY[:98])
        before = state(club)
        for thing in STRANGE + NO_THINGS:
            with self.assertRaises(BadThing):
                club.tell(thing)
        with self.assertRaises(SecondBook) as caught:
            club.tell(("book", 5, PLAIN))
        self.assertEqual(caught.exception.day, 5)
        for thing in (("book", 6, PLAIN), CLOSED, WALK):
            with self.assertRaises(TooMany) as caught:
                club.tell(thing)
            self.assertEqual(caught.exception.most, 99)
        self.assertIs(club.tell(BOOK_THING), False)
        self.assertEqual(state(club), before)

    def test_untell(self):
        club = Club((WALK, CLOSED))
        self.assertIsNone(club.untell(WALK))
        self.assertEqual(club.things(), (CLOSED,))
        self.assertIs(club.tell(WALK), True)
        self.assertIsNone(club.untell(thing=CLOSED))
        self.assertEqual(club.things(), (WALK,))
        self.assertEqual(
            club.changes(), [("told", WALK), ("told", CLOSED), ("untold", WALK), ("told", WALK), ("untold", CLOSED)],
        )

    def test_untell_refused(self):
        club = Club((WALK, CLOSED))
        before = state(club)
        for thing in (OTHER, BOOK_THING, ("closed", "north", 3, 8), ("walk", 12, "ann", (("north", 0, 1),))):
            with self.assertRaises(NotTold):
                club.untell(thing)
        for thing in STRANGE + NO_THINGS:
            with self.assertRaises(BadThing):
                club.untell(thing)
        self.assertEqual(state(club), before)
        club.untell(WALK)
        with self.assertRaises(NotTold):
            club.untell(WALK)

    def test_another_book_where_one_was_untold(self):
        club = Club((BOOK_THING,))
        club.untell(BOOK_THING)
        club.tell(("book", 5, PLAIN))
        with self.assertRaises(SecondBook):
            club.tell(BOOK_THING)
        self.assertEqual(club.take_back(), ("told", ("book", 5, PLAIN)))
        self.assertEqual(club.take_back(), ("untold", BOOK_THING))
        self.assertEqual(club.things(), (BOOK_THING,))

    def test_take_back(self):
        club = Club((WALK, CLOSED))
        club.untell(WALK)
        club.tell(OTHER)
        for wanted, things in (
            (("told", OTHER), (CLOSED,)), (("untold", WALK), (CLOSED, WALK)), (("told", CLOSED), (WALK,)), (("told", WALK), ()),
        ):
            self.assertEqual(club.take_back(), wanted)
            self.assertEqual(club.things(), things)
        self.assertEqual(club.changes(), [])
        with self.assertRaises(NotTold):
            club.take_back()
        with self.assertRaises(NotTold):
            Club().take_back()
        self.assertIs(club.tell(WALK), True)
        self.assertEqual(club.changes(), [("told", WALK)])

    def test_what_was_told_already_is_not_taken_back(self):
        club = Club((WALK, OTHER))
        club.tell(WALK)
        with self.assertRaises(NotTold):
            club.untell(CLOSED)
        self.assertEqual(club.take_back(), ("told", OTHER))
        self.assertEqual(club.things(), (WALK,))

    def test_take_back_at_ninety_nine(self):
        club = Club(NINETY)
        club.untell(NINETY[3])
        self.assertEqual(club.take_back(), ("untold", NINETY[3]))
        self.assertEqual(club.things(), NINETY)

    def test_by_chance_against_a_list_of_states(self):
        chance = random.Random(1)
        for things in some_things(30):
            club, states = Club(), [((), None)]
            for k in range(40):
                thing, how = chance.choice(things), chance.random()
                now = states[-1][0]
                if how < 0.5:
                    self.assertIs(club.tell(thing), thing not in now)
                    if thing not in now:
                        states.append((naive_days.in_order(now + (thing,)), ("told", thing)))
                elif how < 0.8 and thing in now:
                    club.untell(thing)
                    states.append((tuple(one for one in now if one != thing), ("untold", thing)))
                elif len(states) > 1:
                    self.assertEqual(club.take_back(), states.pop()[1])
                self.assertEqual(state(club), (states[-1][0], [change for told, change in states[1:]]))
                self.assertEqual(len(club), len(states[-1][0]))

    def test_lists_changed_by_the_asker(self):
        club = Club((BOOK_THING, WALK))
        before = state(club)
        for ask in (club.changes, club.walkers, club.idle, lambda: club.covered("ann"), lambda: club.left("ann")):
            told = ask()
            twin = list(told)
            told.append("x")
            self.assertEqual(ask(), twin)
            told.clear()
            self.assertEqual(ask(), twin)
        club.news("ann")[0].clear()
        self.assertEqual(len(club.news("ann")[0]), 2)
        self.assertEqual(state(club), before)
        earlier = club.changes(), club.things(), club.covered("ann")
        copies = list(earlier[0]), earlier[1], list(earlier[2])
        club.untell(WALK)
        club.take_back()
        club.take_back()
        self.assertEqual((earlier[0], earlier[1], earlier[2]), copies)


class Asking(unittest.TestCase):
    def test_walkers(self):
        self.assertEqual(Club().walkers(), [])
        self.assertEqual(Club((CLOSED, BOOK_THING)).walkers(), [])
        club = Club((OTHER, WALK, ("walk", 0, "ann", (("south", 0, 1),)), ("walk", 0, "ab", (("south", 0, 1),))))
        self.assertEqual(club.walkers(), ["ab", "ann", "ben"])
        club.untell(OTHER)
        self.assertEqual(club.walkers(), ["ab", "ann"])

    def test_book_of(self):
        club = Club((BOOK_THING, ("book", 10, PLAIN)))
        self.assertEqual(club.book_of(), PLAIN)
        self.assertEqual(club.book_of(9), BOOK)
        self.assertEqual(club.book_of(day=5), BOOK)
        for day in (0, 4):
            with self.assertRaises(NoBook) as caught:
                club.book_of(day)
            self.assertEqual(caught.exception.day, day)
        with self.assertRaises(NoBook) as caught:
            Club().book_of()
        self.assertEqual(caught.exception.day, 9999)
        for day in NO_DAYS:
            with self.assertRaises(BadDay):
                Club().book_of(day)

    def test_as_the_functions_tell(self):
        for things in some_things(25):
            club = Club(tuple(things))
            told = club.things()
            for walker, day in itertools.product(WALKERS, DAYS):
                for name in ("covered", "done", "left", "finished", "excused", "sums"):
                    function, method = getattr(asked, name), getattr(club, name)
                    try:
                        wanted = function(told, walker, day)
                    except NoBook:
                        with self.assertRaises(NoBook):
                            method(walker, day)
                        continue
                    self.assertEqual(method(walker, day), wanted)
                    self.assertEqual(method(day=day, walker=walker), wanted)
                self.assertEqual(club.sums(walker, day, 3), asked.sums(told, walker, day, 3))
                self.assertEqual(club.sums(walker, since=3), asked.sums(told, walker, 9999, 3))
            for walker in WALKERS:
                for name in ("covered", "done", "left", "finished", "excused", "sums"):
                    self.assertEqual(getattr(club, name)(walker), getattr(asked, name)(told, walker))

    def test_refused_as_the_functions(self):
        for club in (Club(), Club((("book", 5, BOOK),))):
            for name in ("covered", "done", "left", "finished", "excused", "sums", "news"):
                ask = getattr(club, name)
                for walker in NO_NAMES:
                    with self.assertRaises(BadName):
                        ask(walker)
                    with self.assertRaises(BadName):
                        ask(walker, -1)
                for day in NO_DAYS:
                    with self.assertRaises(BadDay):
                        ask("ann", day)
            for since in NO_DAYS:
                with self.assertRaises(BadDay):
                    club.sums("ann", 5, since)
            for name in ("done", "left", "finished", "excused"):
                with self.assertRaises(NoBook) as caught:
                    getattr(club, name)("ann", 4)
                self.assertEqual(caught.exception.day, 4)
        self.assertEqual(Club().covered("ann"), [])
        self.assertEqual(Club().sums("ann"), (0, 0, 0, 0))

    def test_len_and_str(self):
        for things, text in (
            ((), "0 books, 0 closings, 0 walks"), ((WALK,), "0 books, 0 closings, 1 walks"), ((BOOK_THING,), "1 books, 0 closings, 0 walks"),
            ((CLOSED, WALK, OTHER), "0 books, 1 closings, 2 walks"), ((BOOK_THING, ("book", 6, BOOK), WALK), "2 books, 0 closings, 1 walks"),
            (NINETY, "0 books, 0 closings, 99 walks"),
        ):
            club = Club(things)
            self.assertEqual(len(club), len(things))
            self.assertEqual(str(club), text)

    def test_equal(self):
        club = Club((WALK, CLOSED))
        other = Club((CLOSED, OTHER, WALK))
        self.assertIs(club == other, False)
        self.assertIs(club != other, True)
        other.untell(OTHER)
        self.assertIs(club == other, True)
        self.assertIs(club != other, False)
        self.assertIs(Club() == Club(), True)
        for one in STRANGE + (club.things(), str(club), Club, Like(), [club], state(club)):
            self.assertIs(club == one, False)
            self.assertIs(Club() == one, False)

        class Alike:
            def things(self):
                return club.things()

        self.assertIs(club == Alike(), False)


class News(unittest.TestCase):
    def test_none(self):
        self.assertEqual(Club().news("ann"), ([], []))
        club = Club((BOOK_THING, WALK))
        club.take_back()
        club.take_back()
        self.assertEqual(club.news("ann"), ([], []))
        self.assertEqual(club.news("ann", 0), ([], []))

    def test_got_and_lost(self):
        pieces = [("north", "a", "b"), ("north", "b", "c")]
        club = Club((BOOK_THING, WALK))
        self.assertEqual(club.news("ann"), (pieces, []))
        self.assertEqual(club.news("ann", 12), (pieces, []))
        self.assertEqual(club.news("ann", 11), ([], []))
        self.assertEqual(club.news(day=12, walker="ben"), ([], []))
        club.tell(WALK)
        self.assertEqual(club.news("ann"), (pieces, []))
        club.tell(("closed", "north", 12, 12))
        self.assertEqual(club.news("ann"), ([], pieces))
        self.assertEqual(club.news("ann", 11), ([], []))
        club.take_back()
        self.assertEqual(club.news("ann"), (pieces, []))
        club.untell(BOOK_THING)
        self.assertEqual(club.news("ann"), ([], pieces))
        club.take_back()
        club.untell(WALK)
        self.assertEqual(club.news("ann"), ([], pieces))
        club.tell(CLOSED)
        self.assertEqual(club.news("ann"), ([], []))

    def test_both_at_once(self):
        # By the new BOOK north leads another way.
        other = ((("north", ("a", "x", "b"), ((1, 0, 0), (1, 0, 0))),), (), (), ())
        club = Club((BOOK_THING, WALK, ("book", 10, other)))
        self.assertEqual(club.news("ann"), ([("north", "a", "x"), ("north", "b", "x")], [("north", "a", "b"), ("north", "b", "c")]))
        club.untell(("book", 10, other))
        self.assertEqual(club.news("ann"), ([("north", "a", "b"), ("north", "b", "c")], [("north", "a", "x"), ("north", "b", "x")]))

    def test_nothing_is_changed(self):
        club = Club((BOOK_THING, WALK))
        before = state(club)
        self.assertEqual(club.news("ann"), club.news("ann"))
        self.assertEqual(state(club), before)
        self.assertIs(type(club.news("ann")), tuple)

    def test_by_chance(self):
        chance = random.Random(4)
        for things in some_things(25):
            club = Club()
            for k in range(25):
                thing = chance.choice(things)
                ahead = club.things()
                if thing in ahead:
                    club.untell(thing)
                else:
                    club.tell(thing)
                for walker, day in itertools.product(WALKERS, (2, 6, 9999)):
                    had, has = naive_days.covered(ahead, walker, day), naive_days.covered(club.things(), walker, day)
                    self.assertEqual(club.news(walker, day), (sorted(has - had), sorted(had - has)))

    def test_ninety_nine(self):
        club = Club((BOOK_THING,) + NINETY[:98])
        club.untell(NINETY[0])
        self.assertEqual(club.news("ben"), ([], []))
        self.assertEqual(len(club), 98)


class Idle(unittest.TestCase):
    def test_walks(self):
        broken = ("walk", 12, "ann", (("north", 0, 1), ("east", 0, 1)))
        early = ("walk", 4, "ann", (("north", 0, 1),))
        again = ("walk", 13, "ann", (("north", 0, 2),))
        club = Club((BOOK_THING, WALK, broken, early, again))
        # A walk of what is covered already still has its part in the SUMS.
        self.assertEqual(club.idle(), [early, broken])
        self.assertEqual(Club().idle(), [])
        self.assertEqual(Club((WALK,)).idle(), [WALK])

    def test_books(self):
        same = ("book", 12, BOOK)
        later = ("book", 14, PLAIN)
        self.assertEqual(Club((BOOK_THING, WALK)).idle(), [])
        # Either alone could go, not both.
        self.assertEqual(Club((BOOK_THING, same, WALK)).idle(), [BOOK_THING, same])
        self.assertEqual(Club((BOOK_THING, same, WALK)).lean().things(), (same, WALK))
        self.assertEqual(Club((BOOK_THING, later, WALK)).idle(), [later])
        self.assertEqual(Club((BOOK_THING,)).idle(), [BOOK_THING])

    def test_closings(self):
        for closing, is_idle in (
            (("closed", "north", 12, 12), False), (("closed", "north", 0, 11), True), (("closed", "north", 13, 9999), True),
            (("closed", "east", 12, 12), True), (("closed", "north", 0, 9999), False),
        ):
            walk = ("walk", 12, "ann", (("north", 0, 1),))
            club = Club((BOOK_THING, walk, closing))
            self.assertEqual(closing in club.idle(), is_idle)
        # Each of two that close the same DAY could go by itself.
        club = Club((BOOK_THING, WALK, ("closed", "north", 0, 12), ("closed", "north", 12, 15)))
        self.assertEqual(club.idle(), list(club.things()))
        self.assertEqual(club.lean().things(), ())

    def test_walks_that_come_to_the_same_together(self):
        # While west is closed the one walk counts, while it isn't it is broken, and the other one is as good.
        east, west = ("east", ("a", "b"), ((5, 1, 1),)), ("west", ("c", "d"), ((5, 1, 1),))
        book = ("book", 0, ((east, west), (), (), ()))
        both = ("walk", 3, "ann", (("east", 0, 1), ("west", 0, 1)))
        closing = ("closed", "west", 3, 3)
        before = ("walk", 1, "ann", (("east", 0, 1), ("east", 1, 0)))
        other = ("walk", 3, "ann", (("west", 1, 0), ("west", 0, 1), ("east", 0, 1)))
        self.assertEqual(Club((book, both, closing)).idle(), [])
        self.assertEqual(naive_days.idle((book, both, closing, before, other)), set(Club((book, both, closing, before, other)).idle()))
        # Two walks of one DAY that swap what they come to.
        turned = ("walk", 3, "ann", (("east", 1, 0), RIDE, ("south", 0, 1), ("west", 0, 1)))
        self.assertEqual(
            naive_days.idle((book, both, closing, turned)), set(Club((book, both, closing, turned)).idle()),
        )

    def test_a_closing_between_two_walks_that_swap(self):
        # Closed, the first walk is sound and passes a b; else it is broken, and the second one passes what it did.
        one, far = ("one", ("a", "b"), ((5, 1, 1),)), ("far", ("b", "a"), ((5, 1, 1),))
        gate = ("gate", ("x", "y"), ((5, 1, 1),))
        book = ("book", 0, ((one, far, gate), (), (), ()))
        covers = ("walk", 1, "ann", (("one", 0, 1), RIDE, ("gate", 0, 1)))
        first = ("walk", 3, "ann", (("one", 0, 1), ("gate", 0, 1)))
        second = ("walk", 3, "ann", (("gate", 1, 0),))
        closing = ("closed", "gate", 3, 3)
        club = Club((book, covers, first, second, closing))
        self.assertEqual(club.covered("ann"), [("gate", "x", "y"), ("one", "a", "b")])
        # With it the first walk counts 5, without it the second one does: the same SUMS, and nothing new.
        self.assertEqual(club.idle(), [closing, second])
        self.assertEqual(set(club.idle()), naive_days.idle(club.things()))
        self.assertEqual(club.lean().things(), naive_days.lean(club.things()))

    def test_only_what_one_walker_has_on_one_day_can_be_swapped(self):
        one, gate = ("one", ("a", "b"), ((5, 1, 1),)), ("gate", ("x", "y"), ((5, 1, 1),))
        book = ("book", 0, ((one, gate), (), (), ()))
        begun = tuple(("walk", 1, name, (("one", 0, 1), RIDE, ("gate", 0, 1))) for name in ("ann", "ben"))
        closing = ("closed", "gate", 3, 4)
        # Closed, the first LEG alone counts; not closed, the walk is broken.
        broken, through = (("one", 0, 1), ("gate", 0, 1)), (("gate", 1, 0),)
        for walks, is_idle in (
            ((("walk", 3, "ann", broken), ("walk", 3, "ann", through)), True),
            ((("walk", 3, "ann", broken), ("walk", 4, "ann", through)), False),
            ((("walk", 4, "ann", broken), ("walk", 3, "ann", through)), False),
            ((("walk", 3, "ann", broken), ("walk", 3, "ben", through)), False),
            ((("walk", 3, "ann", broken), ("walk", 3, "ann", through), ("walk", 4, "ben", broken)), False),
            ((("walk", 3, "ben", broken), ("walk", 3, "ben", through), ("walk", 4, "ann", through)), False),
        ):
            club = Club((book, closing) + begun + walks)
            self.assertEqual(closing in club.idle(), is_idle, walks)
            self.assertEqual(set(club.idle()), naive_days.idle(club.things()))
            self.assertEqual(club.lean().things(), naive_days.lean(club.things()))

    def test_sums_alone_tell_it(self):
        one = ("book", 0, ((("east", ("a", "b"), ((5, 1, 1),)),), (), (), ()))
        for stretch, is_idle in (((5, 1, 1), True), ((6, 1, 1), False), ((5, 2, 1), False), ((5, 1, 2), False)):
            other = ("book", 3, ((("east", ("a", "b"), (stretch,)),), (), (), ()))
            club = Club((one, other, ("walk", 1, "ann", (("east", 0, 1),)), ("walk", 4, "ann", (("east", 0, 1),))))
            self.assertEqual(club.idle(), [other] if is_idle else [])

    def test_by_chance(self):
        many = 0
        for things in some_things(50, 9):
            club = Club(tuple(things))
            wanted = naive_days.idle(things)
            many += len(wanted)
            self.assertEqual(club.idle(), [thing for thing in club.things() if thing in wanted])
        self.assertGreater(many, 50)

    def test_lean_by_chance(self):
        for things in some_things(25, 9):
            club = Club(tuple(things))
            before = state(club)
            lean = club.lean()
            self.assertEqual(lean.things(), naive_days.lean(things))
            self.assertEqual(lean.idle(), [])
            self.assertEqual(lean.changes(), [("told", thing) for thing in lean.things()])
            for walker in WALKERS:
                for day in DAYS:
                    self.assertEqual(lean.covered(walker, day), club.covered(walker, day))
                    self.assertEqual(lean.sums(walker, day), club.sums(walker, day))
            self.assertEqual(state(club), before)

    def test_ninety_nine(self):
        club = Club((("book", 0, BOOK),) + NINETY[:90] + tuple(("closed", "north", day, day + 2) for day in range(3, 11)))
        self.assertEqual(len(club), 99)
        wanted = naive_days.idle(club.things())
        self.assertEqual(set(club.idle()), wanted)
        self.assertEqual(club.lean().idle(), [])


class Twins(unittest.TestCase):
    def test_twin(self):
        club = Club((BOOK_THING, WALK))
        club.untell(WALK)
        twin = club.twin()
        self.assertIs(type(twin), Club)
        self.assertIsNot(twin, club)
        self.assertEqual(state(twin), state(club))
        self.assertIs(twin == club, True)

    def test_they_go_on_by_themselves(self):
        club = Club((BOOK_THING, WALK))
        twin = club.twin()
        before = state(club)
        twin.tell(OTHER)
        twin.untell(BOOK_THING)
        self.assertEqual(state(club), before)
        later = state(twin)
        club.take_back()
        club.take_back()
        club.tell(CLOSED)
        self.assertEqual(state(twin), later)
        for k in range(4):
            twin.take_back()
        self.assertEqual(state(twin), ((), []))
        self.assertEqual(state(club), ((CLOSED,), [("told", CLOSED)]))

    def test_up_to(self):
        things = (
            ("book", 0, BOOK), ("book", 9999, PLAIN), BOOK_THING, CLOSED, ("closed", "east", 5, 9999), WALK, OTHER, ("walk", 3, "ann", WALK[3]),
        )
        club = Club(things)
        for day in (0, 2, 3, 4, 5, 12, 13, 9998, 9999):
            part = club.up_to(day)
            wanted = naive_days.in_order([thing for thing in things if (thing[2] if thing[0] == "closed" else thing[1]) <= day])
            self.assertEqual(state(part), (wanted, [("told", thing) for thing in wanted]))
        self.assertEqual(club.up_to(day=3).things(), club.up_to(3).things())
        self.assertEqual(len(club), 8)
        club.up_to(9999).untell(WALK)
        self.assertEqual(len(club), 8)

    def test_up_to_tells_the_same_of_days_up_to_it(self):
        for things in some_things(20):
            club = Club(tuple(things))
            for day in DAYS:
                part = club.up_to(day)
                for walker, one in itertools.product(WALKERS, [one for one in DAYS if one <= day]):
                    self.assertEqual(part.covered(walker, one), club.covered(walker, one))
                    self.assertEqual(part.sums(walker, one), club.sums(walker, one))
                    if naive_days.book_on(things, one) is not None:
                        self.assertEqual(part.left(walker, one), club.left(walker, one))
                        self.assertEqual(part.excused(walker, one), club.excused(walker, one))

    def test_up_to_refused(self):
        for day in NO_DAYS:
            with self.assertRaises(BadDay):
                Club((WALK,)).up_to(day)

    def test_lean_goes_on_by_itself(self):
        club = Club((BOOK_THING, WALK))
        lean = club.lean()
        self.assertEqual(lean, club)
        lean.untell(WALK)
        self.assertEqual(len(club), 2)


class Merged(unittest.TestCase):
    def test_merged(self):
        one, other = Club((WALK, CLOSED)), Club((OTHER, CLOSED, BOOK_THING))
        both = merged((one, other))
        self.assertIs(type(both), Club)
        self.assertEqual(both.things(), (BOOK_THING, CLOSED, WALK, OTHER))
        self.assertEqual(both.changes(), [("told", CLOSED), ("told", WALK), ("told", BOOK_THING), ("told", OTHER)])
        self.assertEqual(merged(clubs=(other, one)), both)
        self.assertEqual(state(merged(())), ((), []))
        self.assertEqual(merged((one,)), one)
        self.assertEqual(merged((one, one, one)), one)

    def test_they_have_nothing_in_common(self):
        one = Club((WALK,))
        both = merged((one,))
        both.tell(CLOSED)
        self.assertEqual(len(one), 1)
        one.take_back()
        self.assertEqual(both.things(), (CLOSED, WALK))

    def test_refused(self):
        with self.assertRaises(SecondBook) as caught:
            merged((Club((BOOK_THING, ("book", 9, BOOK))), Club((("book", 9, PLAIN), ("book", 5, PLAIN)))))
        self.assertEqual(caught.exception.day, 5)
        with self.assertRaises(TooMany) as caught:
            merged((Club(NINETY), Club((WALK,))))
        self.assertEqual(caught.exception.most, 99)
        with self.assertRaises(TooMany):
            merged((Club(NINETY), Club((WALK,)), Club((BOOK_THING,)), Club((("book", 5, PLAIN),))))
        self.assertEqual(len(merged((Club(NINETY), Club(NINETY)))), 99)

    def test_by_chance(self):
        for things in some_things(20):
            parts = (Club(tuple(things[:5])), Club(tuple(things[3:9])), Club(tuple(things[8:])))
            self.assertEqual(merged(parts).things(), naive_days.in_order(things))
            told = [thing for club in parts for thing in club.things()]
            self.assertEqual(merged(parts).changes(), [("told", thing) for thing in dict.fromkeys(told)])


class Whole(unittest.TestCase):
    def test_through_texts_and_back(self):
        for things in some_things(20):
            club = Club(tuple(things))
            self.assertEqual(Club(things_in(things_text(club.things()))), club)
            self.assertEqual(things_in(things_text(club.things())), club.things())

    def test_as_put_in(self):
        for things in some_things(10):
            told = ()
            for thing in things:
                told = put_in(told, thing)
            self.assertEqual(Club(tuple(things)).things(), told)


if __name__ == "__main__":
    unittest.main()
