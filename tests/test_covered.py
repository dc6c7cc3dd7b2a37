"""What is covered, done, left, and the sums, by examples and against a slower look STRETCH by STRETCH."""

import itertools
import unittest

from pathbook.calendar import put_in
from pathbook.covered import came, covered, done, excused, finished, left, share, standing, sums, times
from pathbook.errors import BadDay, BadName, NoBook, NoSection
from tests import naive_days
from tests.sample_things import DAYS, NAMES, WALKERS, some_things
from tests.samples import ANYTHING, NO_KEYS

STRANGE = ANYTHING + NO_KEYS
NO_DAYS = STRANGE + (10000, "5", (5,))
NO_NAMES = STRANGE + (5, "Ann", "ann ", ("ann",))
RIDE = ("ride",)

# north: a b c d; old beside it: a e d; east by itself: c f
NORTH = ("north", ("a", "b", "c", "d"), ((10, 1, 2), (20, 3, 4), (30, 5, 6)))
OLD = ("old", ("a", "e", "d"), ((7, 0, 9), (8, 9, 0)))
EAST = ("east", ("c", "f"), ((5, 5, 5),))
FIRST = ((NORTH, OLD, EAST), ("a", "d"), (("old", "north"),), ())
# moved: another way round, another MARK between, other numbers; east is cut off, west is come.
MOVED = ("north", ("d", "c", "x", "b", "a"), ((31, 6, 5), (11, 0, 0), (12, 0, 0), (13, 2, 1)))
WEST = ("west", ("c", "f"), ((5, 5, 5),))
SECOND = ((MOVED, WEST, OLD), (), (), ())
# renamed: what was old is new now; north is left out.
NEW = ("new", OLD[1], OLD[2])
THIRD = ((NEW, EAST), (), (), ())

OF_A_BOOK = (done, left, finished, excused, share)
ALL_OF_A_WALKER = (covered, times, came, sums) + OF_A_BOOK


def put_all(things):
    told = ()
    for thing in things:
        told = put_in(told, thing)
    return told


def walk(day, *legs, walker="ann"):
    return ("walk", day, walker, legs)


BOOKS = (("book", 5, FIRST), ("book", 50, SECOND), ("book", 90, THIRD))


class Covered(unittest.TestCase):
    def test_pieces(self):
        things = put_all(BOOKS + (walk(5, ("north", 0, 2)), walk(6, ("north", 2, 1), ("north", 1, 3), RIDE, ("old", 2, 1))))
        self.assertEqual(covered(things, "ann", 4), [])
        self.assertEqual(covered(things, "ann", 5), [("north", "a", "b"), ("north", "b", "c")])
        wanted = [("north", "a", "b"), ("north", "b", "c"), ("north", "c", "d"), ("old", "d", "e")]
        for day in (6, 7, 50, 90):
            self.assertEqual(covered(things, "ann", day), wanted)
        self.assertEqual(covered(things, "ann"), wanted)
        self.assertEqual(covered(day=5, walker="ann", things=things), wanted[:2])
        self.assertEqual(covered(things, "ben"), [])
        self.assertEqual(covered((), "ann"), [])

    def test_the_lesser_text_first(self):
        things = put_all((("book", 0, SECOND), walk(3, ("north", 0, 4))))
        self.assertEqual(
            covered(things, "ann"), [("north", "a", "b"), ("north", "b", "x"), ("north", "c", "d"), ("north", "c", "x")],
        )

    def test_by_the_book_of_the_walks_own_day(self):
        # The same LEGS pass other PIECES by another BOOK.
        for day, wanted in (
            (4, []), (5, [("north", "a", "b")]), (49, [("north", "a", "b")]), (50, [("north", "c", "d")]),
            (89, [("north", "c", "d")]), (90, []), (9999, []),
        ):
            self.assertEqual(covered(put_all(BOOKS + (walk(day, ("north", 0, 1)),)), "ann"), wanted)

    def test_closed(self):
        for day, wanted in ((19, 1), (20, 0), (25, 0), (30, 0), (31, 1)):
            things = put_all(BOOKS + (("closed", "north", 20, 30), walk(day, ("north", 0, 1))))
            self.assertEqual(len(covered(things, "ann")), wanted)

    def test_broken_walks_count_nothing(self):
        things = put_all(BOOKS + (walk(5, ("north", 0, 1), ("old", 0, 1)), walk(5, ("east", 0, 1))))
        self.assertEqual(covered(things, "ann"), [("east", "c", "f")])

    def test_times(self):
        things = put_all(BOOKS + (
            walk(5, ("north", 0, 2), ("north", 2, 0), ("north", 0, 1)), walk(6, ("north", 2, 3)), walk(50, ("north", 0, 1)),
            walk(51, ("north", 0, 1), ("north", 1, 0)), walk(7, ("north", 0, 3), walker="ben"),
        ))
        first = [(("north", "a", "b"), 2, 1), (("north", "b", "c"), 1, 1)]
        self.assertEqual(times(things, "ann", 5), first)
        self.assertEqual(times(things, "ann", 6), first + [(("north", "c", "d"), 1, 0)])
        # By the later BOOK the LEG goes from d to c.
        self.assertEqual(times(things, "ann", 50), first + [(("north", "c", "d"), 1, 1)])
        self.assertEqual(times(things, "ann"), first + [(("north", "c", "d"), 2, 2)])
        self.assertEqual(times(day=4, walker="ann", things=things), [])
        self.assertEqual(times(things, "nobody"), [])

    def test_came(self):
        things = put_all(BOOKS + (
            walk(5, ("north", 0, 1)), walk(5, ("north", 1, 2)), walk(6, ("north", 0, 2)), walk(7, ("north", 3, 0)),
            walk(50, ("west", 1, 0), ("north", 1, 0)), walk(60, ("west", 0, 1)), walk(4, ("north", 0, 1)),
        ))
        whole = [
            (5, (("north", "a", "b"), ("north", "b", "c"))), (7, (("north", "c", "d"),)), (50, (("west", "c", "f"),)),
        ]
        for day, many in ((4, 0), (5, 1), (6, 1), (7, 2), (49, 2), (50, 3), (9999, 3)):
            self.assertEqual(came(things, "ann", day), whole[:many])
        self.assertEqual(came(things, "ann"), whole)
        self.assertEqual(came(walker="ben", things=things), [])
        self.assertIs(type(came(things, "ann")[0][1]), tuple)


class Done(unittest.TestCase):
    things = put_all(BOOKS + (walk(6, ("north", 0, 3)), walk(7, ("old", 0, 1)), walk(60, ("west", 0, 1))))

    def test_done(self):
        north = [("north", 0), ("north", 1), ("north", 2)]
        self.assertEqual(done(self.things, "ann", 5), [])
        self.assertEqual(done(self.things, "ann", 6), north)
        self.assertEqual(done(self.things, "ann", 49), north + [("old", 0)])
        # Moved, it keeps what lies between the same MARKS.
        self.assertEqual(done(self.things, "ann", 50), [("north", 0), ("north", 3), ("old", 0)])
        self.assertEqual(done(self.things, "ann", 60), [("north", 0), ("north", 3), ("west", 0), ("old", 0)])
        # Renamed, it keeps nothing; and west is not east.
        self.assertEqual(done(self.things, "ann", 90), [])
        self.assertEqual(done(self.things, "ann"), [])

    def test_left(self):
        self.assertEqual(
            left(self.things, "ann", 5), [("north", 0), ("north", 1), ("north", 2), ("old", 0), ("old", 1), ("east", 0)],
        )
        # north is done, old is excused by it.
        self.assertEqual(left(self.things, "ann", 6), [("east", 0)])
        self.assertEqual(left(self.things, "ann", 50), [("north", 1), ("north", 2), ("west", 0), ("old", 1)])
        self.assertEqual(left(self.things, "ann", 60), [("north", 1), ("north", 2), ("old", 1)])
        self.assertEqual(left(self.things, "ann", 90), [("new", 0), ("new", 1), ("east", 0)])
        self.assertEqual(left(self.things, "nobody", 90), [("new", 0), ("new", 1), ("east", 0)])

    def test_finished_and_excused(self):
        for day, whole, free in ((5, [], []), (6, ["north"], ["old"]), (49, ["north"], ["old"]), (50, [], []), (60, ["west"], []), (90, [], [])):
            self.assertEqual(finished(self.things, "ann", day), whole)
            self.assertEqual(excused(self.things, "ann", day), free)

    def test_a_done_one_is_not_excused(self):
        things = put_in(self.things, walk(8, ("old", 1, 2)))
        self.assertEqual(finished(things, "ann", 8), ["north", "old"])
        self.assertEqual(excused(things, "ann", 8), [])
        self.assertEqual(left(things, "ann", 8), [("east", 0)])

    def test_three_beside_one_another(self):
        book = ((NORTH, OLD, EAST), (), (("east", "old", "north"),), ())
        things = put_all((("book", 0, book), walk(1, ("east", 0, 1)), walk(2, ("old", 0, 2))))
        self.assertEqual(excused(things, "ann", 1), ["north", "old"])
        self.assertEqual(left(things, "ann", 1), [])
        self.assertEqual(excused(things, "ann", 2), ["north"])
        self.assertEqual(finished(things, "ann", 2), ["old", "east"])

    def test_share(self):
        for day, wanted in ((5, (0, 80)), (6, (60, 80)), (7, (67, 80)), (50, (51, 87)), (60, (56, 87)), (90, (0, 20))):
            self.assertEqual(share(self.things, "ann", day), wanted)
        self.assertEqual(share(self.things, "ann"), (0, 20))

    def test_closings_matter_for_left_alone(self):
        told = put_all((("closed", "north", 6, 6), ("closed", "east", 20, 30), ("closed", "old", 0, 9999)) + self.things)
        # The walk of DAY 6 doesn't count, nor that of DAY 7.
        self.assertEqual(covered(told, "ann", 9), [])
        for day, wanted in ((19, ["north", "east"]), (20, ["north"]), (30, ["north"]), (31, ["north", "east"])):
            self.assertEqual(list(dict.fromkeys(name for name, k in left(told, "ann", day))), wanted)
        later = put_all((("closed", "north", 20, 30), ("closed", "old", 20, 30), ("closed", "east", 20, 30)) + self.things)
        self.assertEqual(done(later, "ann", 25), done(self.things, "ann", 25))
        self.assertEqual(finished(later, "ann", 25), ["north"])
        self.assertEqual(excused(later, "ann", 25), ["old"])
        self.assertEqual(share(later, "ann", 25), (67, 80))
        self.assertEqual(left(later, "ann", 25), [])
        self.assertEqual(left(later, "ben", 25), [])
        self.assertEqual(len(left(later, "ben", 31)), 6)

    def test_standing(self):
        told = put_all((("closed", "north", 20, 30), ("closed", "old", 20, 30), ("closed", "east", 20, 30)) + self.things)
        for day, north, old, east in (
            (5, "open", "open", "open"), (6, "done", "excused", "open"), (20, "done", "excused", "closed"),
            (30, "done", "excused", "closed"), (31, "done", "excused", "open"),
        ):
            for name, wanted in (("north", north), ("old", old), ("east", east)):
                self.assertEqual(standing(told, "ann", name, day), wanted)
        self.assertEqual(standing(told, "ann", "north", 50), "begun")
        self.assertEqual(standing(told, "ann", "old", 50), "begun")
        self.assertEqual(standing(told, "ann", "west", 59), "open")
        self.assertEqual(standing(told, "ann", "west", 60), "done")
        self.assertEqual(standing(told, "ben", "north", 19), "open")
        self.assertEqual(standing(told, "ben", "north", 25), "closed")
        self.assertEqual(standing(told, "ann", "new"), "open")
        self.assertEqual(standing(day=6, name="old", walker="ann", things=told), "excused")

    def test_begun_and_closed(self):
        told = put_all((("closed", "old", 20, 30), ("book", 0, FIRST), walk(7, ("old", 0, 1))))
        self.assertEqual([standing(told, "ann", "old", day) for day in (6, 7, 19, 20, 30, 31)], ["open", "begun", "begun", "closed", "closed", "begun"])


class Sums(unittest.TestCase):
    things = put_all(BOOKS + (
        walk(4, ("north", 0, 3)), walk(5, ("north", 0, 2)), walk(5, ("north", 2, 0), ("north", 0, 1)), walk(7, ("east", 0, 1)),
        walk(50, ("north", 0, 1)), walk(90, ("north", 0, 1)), walk(91, ("east", 1, 0), walker="ben"), walk(92, ("north", 0, 1), ("east", 0, 1)),
    ))

    def test_sums(self):
        for day, wanted in (
            (0, (0, 0, 0, 0)), (4, (0, 0, 0, 0)), (5, (1, 70, 4 + 6 + 1, 6 + 4 + 2)), (6, (1, 70, 11, 12)), (7, (2, 75, 16, 17)),
            (50, (3, 106, 22, 22)), (90, (3, 106, 22, 22)), (91, (3, 106, 22, 22)), (92, (4, 111, 27, 27)),
        ):
            self.assertEqual(sums(self.things, "ann", day), wanted)
        self.assertEqual(sums(self.things, "ann"), (4, 111, 27, 27))
        self.assertEqual(sums(self.things, "ben"), (1, 5, 5, 5))
        self.assertEqual(sums(self.things, "nobody"), (0, 0, 0, 0))
        self.assertEqual(sums((), "ann"), (0, 0, 0, 0))

    def test_since(self):
        for day, since, wanted in (
            (9999, 0, (4, 111, 27, 27)), (9999, 5, (4, 111, 27, 27)), (9999, 6, (3, 41, 16, 15)), (50, 7, (2, 36, 11, 10)),
            (50, 50, (1, 31, 6, 5)), (49, 50, (0, 0, 0, 0)), (5, 9999, (0, 0, 0, 0)), (5, 5, (1, 70, 11, 12)), (4, 5, (0, 0, 0, 0)),
        ):
            self.assertEqual(sums(self.things, "ann", day, since), wanted)
            self.assertEqual(sums(since=since, day=day, things=self.things, walker="ann"), wanted)


class ByChance(unittest.TestCase):
    def test_of_no_book(self):
        for things in some_things(60):
            told = put_all(things)
            for walker, day in itertools.product(WALKERS, DAYS):
                self.assertEqual(covered(told, walker, day), sorted(naive_days.covered(things, walker, day)))
                self.assertEqual(times(told, walker, day), naive_days.times(things, walker, day))
                for since in (0, 3, 9999):
                    self.assertEqual(sums(told, walker, day, since), naive_days.sums(things, walker, day, since))
            for walker, day in itertools.product(WALKERS, (0, 3, 9999)):
                self.assertEqual(came(told, walker, day), naive_days.came(things, walker, day))

    def test_of_a_book(self):
        words = set()
        for things in some_things(60):
            told = put_all(things)
            for walker, day in itertools.product(WALKERS, DAYS):
                book, have = naive_days.book_on(things, day), naive_days.covered(things, walker, day)
                if book is None:
                    continue
                closed = naive_days.closed_on(things, day)
                self.assertEqual(done(told, walker, day), naive_days.done_in(book, have))
                self.assertEqual(left(told, walker, day), naive_days.left_in(book, have, closed))
                self.assertEqual(finished(told, walker, day), naive_days.finished_in(book, have))
                self.assertEqual(excused(told, walker, day), naive_days.excused_in(book, have))
                self.assertEqual(share(told, walker, day), naive_days.share_in(book, have))
                for name in [section[0] for section in book[0]]:
                    wanted = naive_days.standing_in(book, have, closed, name)
                    words.add(wanted)
                    self.assertEqual(standing(told, walker, name, day), wanted)
        self.assertEqual(words, {"done", "excused", "closed", "begun", "open"})

    def test_told_otherwise(self):
        for things in some_things(20):
            first, other = put_all(things), put_all(sorted(things, key=repr) + things[:3])
            for ask, walker in itertools.product((covered, times, came, sums), WALKERS):
                self.assertEqual(ask(first, walker), ask(other, walker))

    def test_left_are_those_of_begun_and_open(self):
        for things in some_things(20):
            told = put_all(things)
            for walker, day in itertools.product(WALKERS, DAYS):
                book = naive_days.book_on(things, day)
                if book is not None:
                    names = [section[0] for section in book[0] if standing(told, walker, section[0], day) in ("begun", "open")]
                    ended = done(told, walker, day)
                    wanted = [
                        (section[0], k) for section in book[0] for k in range(len(section[2]))
                        if section[0] in names and (section[0], k) not in ended
                    ]
                    self.assertEqual(left(told, walker, day), wanted)


class Refusals(unittest.TestCase):
    things = put_all((("book", 5, FIRST), walk(5, ("north", 0, 1))))

    def test_bad_name(self):
        for ask, walker in itertools.product(ALL_OF_A_WALKER, NO_NAMES):
            with self.assertRaises(BadName):
                ask(self.things, walker)
            with self.assertRaises(BadName):
                ask((), walker, -1)
        for walker in NO_NAMES:
            with self.assertRaises(BadName):
                standing(self.things, walker, "north", -1)

    def test_bad_day(self):
        for ask, day in itertools.product(ALL_OF_A_WALKER, NO_DAYS):
            for things in ((), self.things):
                with self.assertRaises(BadDay):
                    ask(things, "ann", day)
        for since in NO_DAYS:
            with self.assertRaises(BadDay):
                sums(self.things, "ann", 5, since)
            with self.assertRaises(BadDay):
                sums((), "ann", since=since)

    def test_no_book(self):
        for ask in OF_A_BOOK:
            for things, day in ((self.things, 4), (self.things, 0), ((), 9999), ((), 0)):
                with self.assertRaises(NoBook) as caught:
                    ask(things, "ann", day)
                self.assertEqual(caught.exception.day, day)
            with self.assertRaises(NoBook) as caught:
                ask((), "ann")
            self.assertEqual(caught.exception.day, 9999)
            ask(self.things, "ann", 5)
            ask(self.things, "nobody", 5)

    def test_what_is_told_of_no_book(self):
        for ask, empty in ((covered, []), (times, []), (came, []), (sums, (0, 0, 0, 0))):
            self.assertEqual(ask((), "ann", 0), empty)
            self.assertEqual(ask(self.things, "ann", 4), empty)

    def test_standing(self):
        for name in NO_NAMES:
            for things, day in ((self.things, 5), (self.things, -1), ((), 9999)):
                with self.assertRaises(BadName):
                    standing(things, "ann", name, day)
        for day in NO_DAYS:
            for name in ("north", "nowhere"):
                with self.assertRaises(BadDay):
                    standing((), "ann", name, day)
        for name in ("north", "nowhere"):
            with self.assertRaises(NoBook) as caught:
                standing(self.things, "ann", name, 4)
            self.assertEqual(caught.exception.day, 4)
        for name in ("nowhere", "ann", "a"):
            with self.assertRaises(NoSection) as caught:
                standing(self.things, "ann", name)
            self.assertEqual(caught.exception.name, name)
        with self.assertRaises(NoBook):
            standing((), "ann", "north")

    def test_the_asker_s_own(self):
        things = put_all(BOOKS + (walk(5, ("north", 0, 3)),))
        for ask in (covered, times, came, done, left, finished, excused):
            told = ask(things, "ann", 20)
            self.assertIs(type(told), list)
            twin = list(told)
            told.clear()
            self.assertEqual(ask(things, "ann", 20), twin)
        for ask, many in ((sums, 4), (share, 2)):
            self.assertIs(type(ask(things, "ann", 20)), tuple)
            self.assertEqual(len(ask(things, "ann", 20)), many)


class Names(unittest.TestCase):
    def test_all_are_words(self):
        self.assertEqual(set(NAMES) & {"ride"}, {"ride"})
        # A SECTION, a MARK and a WALKER may be called alike, a SECTION also as a RIDE is.
        book = ((("ride", ("ride", "ann"), ((5, 1, 2),)),), (), (), ())
        things = put_all((("book", 0, book), walk(0, ("ride", 0, 1), RIDE, ("ride", 1, 0), walker="ride")))
        self.assertEqual(covered(things, "ride"), [("ride", "ann", "ride")])
        self.assertEqual(times(things, "ride"), [(("ride", "ann", "ride"), 1, 1)])
        self.assertEqual(sums(things, "ride"), (1, 10, 3, 3))
        self.assertEqual(standing(things, "ride", "ride"), "done")


if __name__ == "__main__":
    unittest.main()
