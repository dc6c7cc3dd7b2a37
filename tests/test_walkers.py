"""WALKERS beside each other: compared, together, parting, meeting, ranked."""

import itertools
import random
import unittest

from pathbook.club import Club
from pathbook.errors import BadDay, BadName, NoBook
from pathbook.lists import compared, left_together, meetings, part_on, pieces_together, ranked
from tests import naive_days
from tests.sample_things import DAYS, WALKERS, some_things
from tests.samples import ANYTHING, NO_KEYS

STRANGE = ANYTHING + NO_KEYS
NO_DAYS = STRANGE + (10000, "5", (5,))
NO_NAMES = STRANGE + (5, "Ann", "ann ", ("ann",))
NO_WALKERS = [thing for thing in STRANGE if thing != () and thing != ("a",)] + [
    "ann", ["ann", "ben"], ("ann", 5), ("Ann",), ("ann", "ben", ""), ("ann", None), (("ann",),), {"ann": "ben"}, 5,
]

NORTH = ("north", ("a", "b", "c"), ((10, 1, 2), (20, 3, 4)))
EAST = ("east", ("c", "d"), ((5, 7, 0),))
OLD = ("old", ("a", "x", "c"), ((9, 9, 9), (9, 9, 9)))
BOOK = ((NORTH, EAST, OLD), (), (("north", "old"),), ())
AB, BC, CD = ("north", "a", "b"), ("north", "b", "c"), ("east", "c", "d")


def walk(day, walker, *legs):
    return ("walk", day, walker, legs)


CLUB = Club((
    ("book", 5, BOOK), ("closed", "east", 20, 30), walk(6, "ann", ("north", 0, 1)), walk(6, "ben", ("north", 1, 0)),
    walk(8, "ann", ("north", 0, 2)), walk(8, "ben", ("north", 2, 1)), walk(8, "ben", ("east", 0, 1)), walk(9, "ann", ("north", 0, 1)),
    walk(9, "ben", ("east", 1, 0)), walk(10, "zoe", ("north", 0, 7)), walk(20, "ann", ("east", 0, 1)), walk(20, "ben", ("east", 0, 1)),
))
PAIRS = (compared, part_on, meetings)


class Examples(unittest.TestCase):
    def test_compared(self):
        for day, wanted in (
            (0, ((), (), ())), (6, ((AB,), (), ())), (8, ((AB, BC), (), (CD,))), (9999, ((AB, BC), (), (CD,))),
        ):
            self.assertEqual(compared(CLUB, "ann", "ben", day), wanted)
            self.assertEqual(compared(CLUB, "ben", "ann", day), (wanted[0], wanted[2], wanted[1]))
            self.assertEqual(compared(day=day, other="ben", first="ann", club=CLUB), wanted)
        self.assertEqual(compared(CLUB, "ann", "ben"), ((AB, BC), (), (CD,)))
        self.assertEqual(compared(CLUB, "ben", "ben"), ((CD, AB, BC), (), ()))
        self.assertEqual(compared(CLUB, "nobody", "ben"), ((), (), (CD, AB, BC)))
        self.assertEqual(compared(Club(), "ann", "ben"), ((), (), ()))
        self.assertEqual([type(one) for one in compared(CLUB, "ann", "ben")], [tuple] * 3)

    def test_pieces_together(self):
        for walkers, day, wanted in (
            ((), 9999, []), (("ann",), 9999, [AB, BC]), (("ann", "ben"), 9999, [CD, AB, BC]), (("ben", "ann", "ben", "zoe"), 9999, [CD, AB, BC]),
            (("ann", "ben"), 6, [AB]), (("ann", "ann"), 5, []), (("nobody",), 9999, []), (("nobody", "ann"), 6, [AB]),
        ):
            self.assertEqual(pieces_together(CLUB, walkers, day), wanted)
            self.assertEqual(pieces_together(day=day, walkers=walkers, club=CLUB), wanted)
        self.assertEqual(pieces_together(CLUB, ("ann", "ben")), [CD, AB, BC])

    def test_left_together(self):
        every = [("north", 0), ("north", 1), ("east", 0), ("old", 0), ("old", 1)]
        for walkers, day, wanted in (
            ((), 5, every), ((), 25, every[:2] + every[3:]), (("ann",), 6, every[1:]), (("ann", "ben"), 8, []), (("ann",), 8, [("east", 0)]),
            (("ann",), 20, []), (("ann",), 31, [("east", 0)]), (("ben", "nobody"), 9999, []),
        ):
            self.assertEqual(left_together(CLUB, walkers, day), wanted)
            self.assertEqual(left_together(day=day, walkers=walkers, club=CLUB), wanted)
        self.assertEqual(left_together(CLUB, ("ann",)), [("east", 0)])

    def test_what_none_has_done_alone(self):
        club = Club((("book", 0, BOOK), walk(1, "ann", ("north", 0, 1)), walk(1, "ben", ("north", 1, 2))))
        self.assertEqual(left_together(club, ("ann", "ben")), [("east", 0)])
        self.assertEqual(len(left_together(club, ("ann",))), 4)

    def test_part_on(self):
        for day, wanted in ((0, None), (6, None), (7, None), (8, 8), (9999, 8)):
            self.assertEqual(part_on(CLUB, "ann", "ben", day), wanted)
            self.assertEqual(part_on(day=day, other="ann", first="ben", club=CLUB), wanted)
        self.assertEqual(part_on(CLUB, "ann", "ben"), 8)
        self.assertEqual(part_on(CLUB, "ann", "nobody"), 6)
        self.assertEqual(part_on(CLUB, "nobody", "ann", 5), None)
        self.assertIsNone(part_on(CLUB, "ann", "ann"))
        self.assertIsNone(part_on(CLUB, "zoe", "nobody"))
        # They part though they come to the same later.
        club = Club((("book", 0, BOOK), walk(1, "ann", ("north", 0, 1)), walk(2, "ben", ("north", 0, 1))))
        self.assertEqual(part_on(club, "ann", "ben"), 1)
        self.assertEqual(compared(club, "ann", "ben"), ((AB,), (), ()))

    def test_meetings(self):
        for day, wanted in ((5, []), (6, [6]), (7, [6]), (8, [6, 8]), (9, [6, 8]), (9999, [6, 8])):
            self.assertEqual(meetings(CLUB, "ann", "ben", day), wanted)
            self.assertEqual(meetings(day=day, other="ann", first="ben", club=CLUB), wanted)
        self.assertEqual(meetings(CLUB, "ann", "ben"), [6, 8])
        self.assertEqual(meetings(CLUB, "ann", "zoe"), [])
        self.assertEqual(meetings(CLUB, "ann", "nobody"), [])
        # One meets oneself wherever something counts.
        self.assertEqual(meetings(CLUB, "ann", "ann"), [6, 8, 9])

    def test_ranked(self):
        for by, day, wanted in (
            ("pieces", 9999, [(3, "ben"), (2, "ann"), (0, "zoe")]), ("pieces", 6, [(1, "ann"), (1, "ben"), (0, "zoe")]),
            ("pieces", 0, [(0, "ann"), (0, "ben"), (0, "zoe")]), ("days", 9999, [(3, "ann"), (3, "ben"), (0, "zoe")]),
            ("length", 9999, [(50, "ann"), (40, "ben"), (0, "zoe")]), ("climb", 9999, [(2 + 4 + 7, "ben"), (1 + 4 + 1, "ann"), (0, "zoe")]),
            ("climb", 8, [(13, "ben"), (5, "ann"), (0, "zoe")]),
        ):
            self.assertEqual(ranked(CLUB, by, day), wanted)
            self.assertEqual(ranked(day=day, by=by, club=CLUB), wanted)
        self.assertEqual(ranked(CLUB), [(3, "ben"), (2, "ann"), (0, "zoe")])
        self.assertEqual(ranked(CLUB, day=6), [(1, "ann"), (1, "ben"), (0, "zoe")])
        self.assertEqual(ranked(Club()), [])


class ByChance(unittest.TestCase):
    def test_pairs(self):
        seen = set()
        for things in some_things(50):
            club = Club(tuple(things))
            for first, other, day in itertools.product(WALKERS + ("nobody",), WALKERS, (0, 2, 5, 9999)):
                one, two = naive_days.covered(things, first, day), naive_days.covered(things, other, day)
                wanted = tuple(tuple(sorted(part)) for part in (one & two, one - two, two - one))
                self.assertEqual(compared(club, first, other, day), wanted)
                parted = [
                    today for today in naive_days.days_of(things)
                    if today <= day and naive_days.covered(things, first, today) != naive_days.covered(things, other, today)
                ]
                self.assertEqual(part_on(club, first, other, day), parted[0] if parted else None)
                met = [today for today in naive_days.days_of(things) if today <= day and self.met(things, first, other, today)]
                self.assertEqual(meetings(club, first, other, day), met)
                seen.add(len(met) > 1)
        self.assertEqual(seen, {True, False})

    def met(self, things, first, other, day):
        own = [
            {naive_days.piece(step) for walk in naive_days.walks(things, walker, day, day) for step in naive_days.steps(things, walk)}
            for walker in (first, other)
        ]
        return bool(own[0] & own[1])

    def test_together(self):
        chance = random.Random(3)
        for things in some_things(50):
            club = Club(tuple(things))
            for day in DAYS:
                walkers = tuple(chance.choices(WALKERS + ("nobody",), k=chance.randint(0, 4)))
                have = set().union(*[naive_days.covered(things, walker, day) for walker in walkers])
                self.assertEqual(pieces_together(club, walkers, day), sorted(have))
                book = naive_days.book_on(things, day)
                if book is not None:
                    self.assertEqual(left_together(club, walkers, day), naive_days.left_in(book, have, naive_days.closed_on(things, day)))

    def test_ranked(self):
        for things in some_things(50):
            club = Club(tuple(things))
            walkers = sorted({thing[2] for thing in things if thing[0] == "walk"})
            for day in (0, 3, 9998, 9999):
                for by, number in (
                    ("pieces", lambda name: len(naive_days.covered(things, name, day))), ("days", lambda name: naive_days.sums(things, name, day)[0]),
                    ("length", lambda name: naive_days.sums(things, name, day)[1]), ("climb", lambda name: naive_days.sums(things, name, day)[2]),
                ):
                    found = ranked(club, by, day)
                    self.assertEqual(sorted(found), sorted((number(name), name) for name in walkers))
                    for (one, name), (two, other) in zip(found, found[1:]):
                        self.assertTrue(one > two or (one == two and name < other))


class Refusals(unittest.TestCase):
    def test_pairs(self):
        for ask, club in itertools.product(PAIRS, (Club(), CLUB)):
            for name in NO_NAMES:
                with self.assertRaises(BadName):
                    ask(club, name, "ben", -1)
                with self.assertRaises(BadName):
                    ask(club, "ann", name, -1)
                with self.assertRaises(BadName):
                    ask(club, "ann", name)
            for day in NO_DAYS:
                with self.assertRaises(BadDay):
                    ask(club, "ann", "ben", day)

    def test_together(self):
        for ask, club in itertools.product((pieces_together, left_together), (Club(), CLUB)):
            for walkers in NO_WALKERS:
                with self.assertRaises(BadName):
                    ask(club, walkers, -1)
                with self.assertRaises(BadName):
                    ask(club, walkers)
            for day in NO_DAYS:
                for walkers in ((), ("ann",), ("ann", "nobody")):
                    with self.assertRaises(BadDay):
                        ask(club, walkers, day)
        for club, day in ((CLUB, 4), (Club(), 9999), (Club(), 0)):
            for walkers in ((), ("ann", "ben")):
                with self.assertRaises(NoBook) as caught:
                    left_together(club, walkers, day)
                self.assertEqual(caught.exception.day, day)
                self.assertEqual(pieces_together(club, walkers, day), [])

    def test_ranked(self):
        for by in STRANGE + ("fall", "piece", "Pieces", "pieces ", "sections", 5, ("pieces",), ["pieces"], b"pieces"):
            for club in (Club(), CLUB):
                with self.assertRaises(BadName):
                    ranked(club, by)
                with self.assertRaises(BadName):
                    ranked(club, by, -1)
        for day in NO_DAYS:
            for club in (Club(), CLUB):
                with self.assertRaises(BadDay):
                    ranked(club, "days", day)

    def test_nothing_is_changed(self):
        before = (CLUB.things(), CLUB.changes())
        for ask in (lambda: pieces_together(CLUB, ("ann",)), lambda: left_together(CLUB, ("ann",)), lambda: meetings(CLUB, "ann", "ben"), lambda: ranked(CLUB)):
            found = ask()
            twin = list(found)
            found.clear()
            self.assertEqual(ask(), twin)
        self.assertEqual((CLUB.things(), CLUB.changes()), before)


if __name__ == "__main__":
    unittest.main()
