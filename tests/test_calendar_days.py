"""The BOOK OF a DAY, SEASONS, closings, REASONS, and the walks of a WALKER."""

import random
import unittest

from pathbook.calendar import (
    book_of, break_of, closed_names, closed_on, closures, counting, is_sound, put_in, reasons, seasons, walks_of,
)
from pathbook.errors import BadDay, BadLegs, BadName
from tests import naive_days
from tests.sample_things import DAYS, NAMES, WALKERS, random_legs, some_things
from tests.samples import ANYTHING, BOOK, EAST, LOOP, NO_KEYS, NORTH, PLAIN

STRANGE = ANYTHING + NO_KEYS
NO_DAYS = STRANGE + (10000, "5", (5,), "day")
NO_NAMES = STRANGE + (5, "North", "north ", ("north",))
NO_LEGS = STRANGE + (
    [("north", 0, 1)], ("north", 0, 1), "north 0 1", (("north", 0, 0),), (("ride",),), (("north", 0, 1), ("ride",)),
    (("north", 0, 8),), (("north", 0, 1),) * 61, (("north", False, 1),),
)
RIDE = ("ride",)
LEGS = (("north", 0, 2),)
OTHER = ((NORTH, LOOP), (), (), ())


def put_all(things):
    told = ()
    for thing in things:
        told = put_in(told, thing)
    return told


class BookOf(unittest.TestCase):
    things = put_all((("book", 5, PLAIN), ("book", 9999, OTHER), ("book", 10, BOOK), ("closed", "north", 0, 9999)))

    def test_days(self):
        for day, book in ((0, None), (4, None), (5, PLAIN), (9, PLAIN), (10, BOOK), (11, BOOK), (9998, BOOK), (9999, OTHER)):
            self.assertEqual(book_of(self.things, day), book)
        self.assertEqual(book_of(day=5, things=self.things), PLAIN)

    def test_none(self):
        for day in (0, 5, 9999):
            self.assertIsNone(book_of((), day))
            self.assertIsNone(book_of((("closed", "north", 0, 9), ("walk", 5, "ann", LEGS)), day))

    def test_a_book_of_the_first_day(self):
        for day in (0, 1, 9999):
            self.assertEqual(book_of((("book", 0, PLAIN),), day), PLAIN)
        self.assertIsNone(book_of((("book", 9999, PLAIN),), 9998))

    def test_bad_day(self):
        for day in NO_DAYS:
            for things in ((), self.things):
                with self.assertRaises(BadDay):
                    book_of(things, day)


class Seasons(unittest.TestCase):
    things = put_all((("book", 5, PLAIN), ("book", 10, PLAIN), ("book", 12, BOOK)))
    whole = [(0, 4, None), (5, 9, PLAIN), (10, 11, PLAIN), (12, 9999, BOOK)]

    def test_whole(self):
        self.assertEqual(seasons(self.things), self.whole)
        self.assertEqual(seasons(self.things, 0, 9999), self.whole)

    def test_none_told(self):
        self.assertEqual(seasons(()), [(0, 9999, None)])
        self.assertEqual(seasons((), 5, 5), [(5, 5, None)])
        self.assertEqual(seasons((("closed", "north", 3, 9),)), [(0, 9999, None)])

    def test_the_first_and_the_last_day(self):
        self.assertEqual(seasons((("book", 0, PLAIN),)), [(0, 9999, PLAIN)])
        self.assertEqual(seasons((("book", 1, PLAIN),)), [(0, 0, None), (1, 9999, PLAIN)])
        told = put_all((("book", 9999, PLAIN), ("book", 9998, BOOK)))
        self.assertEqual(seasons(told), [(0, 9997, None), (9998, 9998, BOOK), (9999, 9999, PLAIN)])

    def test_cut(self):
        for first, last, wanted in (
            (0, 0, [(0, 0, None)]), (4, 5, [(4, 4, None), (5, 5, PLAIN)]), (5, 9, [(5, 9, PLAIN)]), (6, 8, [(6, 8, PLAIN)]),
            (9, 12, [(9, 9, PLAIN), (10, 11, PLAIN), (12, 12, BOOK)]), (12, 12, [(12, 12, BOOK)]),
            (9999, 9999, [(9999, 9999, BOOK)]), (6, 5, []), (9999, 0, []), (12, 11, []), (5, 4, []),
        ):
            self.assertEqual(seasons(self.things, first, last), wanted)
            self.assertEqual(seasons(last=last, first=first, things=self.things), wanted)
        self.assertEqual(seasons(self.things, 11), [(11, 11, PLAIN), (12, 9999, BOOK)])
        self.assertEqual(seasons(self.things, last=4), [(0, 4, None)])

    def test_day_by_day(self):
        for things in some_things(30):
            told = put_all(things)
            for first in (0, 1, 4, 8, 9998, 9999):
                for last in (0, 3, 4, 9, 9997, 9999):
                    found = seasons(told, first, last)
                    begins = {day for day in naive_days.books(things) if first < day <= last} | ({first} if first <= last else set())
                    self.assertEqual([season[0] for season in found], sorted(begins))
                    self.assertEqual([season[1] + 1 for season in found], sorted(begins)[1:] + [last + 1] * bool(begins))
                    for begin, end, book in found:
                        for day in {begin, end}:
                            self.assertEqual(book, naive_days.book_on(things, day))

    def test_bad_day(self):
        for day in NO_DAYS:
            with self.assertRaises(BadDay):
                seasons(self.things, day)
            with self.assertRaises(BadDay):
                seasons(self.things, 0, day)
            with self.assertRaises(BadDay):
                seasons((), day, day)

    def test_a_new_list(self):
        seasons(self.things).clear()
        self.assertEqual(seasons(self.things), self.whole)


class Closings(unittest.TestCase):
    things = put_all((
        ("closed", "north", 3, 5), ("closed", "north", 6, 6), ("closed", "north", 8, 20), ("closed", "north", 10, 12),
        ("closed", "north", 15, 25), ("closed", "old", 4, 4), ("closed", "nowhere", 0, 0), ("closed", "nowhere", 9999, 9999),
        ("book", 0, BOOK), ("walk", 3, "ann", LEGS), ("walk", 9, "north", LEGS),
    ))

    def test_closed_on(self):
        for name, closed, free in (
            ("north", (3, 5, 6, 8, 12, 13, 20, 21, 25), (0, 2, 7, 26, 9999)), ("old", (4,), (3, 5, 0)),
            ("nowhere", (0, 9999), (1, 9998)), ("ann", (), (3, 9)), ("east", (), (4,)),
        ):
            for day in closed:
                self.assertIs(closed_on(self.things, name, day), True)
            for day in free:
                self.assertIs(closed_on(self.things, name, day), False)
        self.assertIs(closed_on(day=3, name="north", things=self.things), True)
        self.assertIs(closed_on((), "north", 0), False)

    def test_closures(self):
        self.assertEqual(closures(self.things, "north"), [(3, 6), (8, 25)])
        self.assertEqual(closures(self.things, "old"), [(4, 4)])
        self.assertEqual(closures(self.things, "nowhere"), [(0, 0), (9999, 9999)])
        self.assertEqual(closures(self.things, "east"), [])
        self.assertEqual(closures((), "north"), [])

    def test_closures_cut(self):
        for first, last, wanted in (
            (0, 2, []), (0, 3, [(3, 3)]), (4, 5, [(4, 5)]), (5, 8, [(5, 6), (8, 8)]), (7, 7, []), (6, 7, [(6, 6)]), (26, 9999, []),
            (25, 9999, [(25, 25)]), (11, 11, [(11, 11)]), (12, 11, []), (9999, 0, []), (4, 3, []), (0, 9999, [(3, 6), (8, 25)]),
        ):
            self.assertEqual(closures(self.things, "north", first, last), wanted)
            self.assertEqual(closures(last=last, name="north", first=first, things=self.things), wanted)
        self.assertEqual(closures(self.things, "north", 20), [(20, 25)])
        self.assertEqual(closures(self.things, "north", last=4), [(3, 4)])

    def test_overlapping_touching_within(self):
        for told, wanted in (
            (((0, 9999), (5, 5), (0, 0), (9999, 9999)), [(0, 9999)]), (((0, 4), (5, 9)), [(0, 9)]), (((0, 4), (6, 9)), [(0, 4), (6, 9)]),
            (((0, 4), (4, 9)), [(0, 9)]), (((0, 9), (2, 3), (5, 12)), [(0, 12)]), (((1, 2), (1, 9), (1, 1)), [(1, 9)]),
            (((9998, 9998), (9999, 9999)), [(9998, 9999)]), (((0, 9), (1, 2), (10, 10), (12, 12)), [(0, 10), (12, 12)]),
            (((0, 0), (1, 1), (2, 2)), [(0, 2)]), (((5, 9), (0, 20)), [(0, 20)]),
        ):
            things = put_all([("closed", "north", first, last) for first, last in told])
            self.assertEqual(closures(things, "north"), wanted)

    def test_day_by_day(self):
        chance = random.Random(3)
        for k in range(60):
            told = [sorted(chance.choices(range(40), k=2)) for n in range(chance.randint(0, 7))]
            things = put_all([("closed", chance.choice(("north", "old")), first, last) for first, last in told])
            first, last = chance.randint(0, 40), chance.randint(0, 40)
            for name in ("north", "old"):
                days = [day for day in range(first, last + 1) if name in naive_days.closed_on(things, day)]
                found = closures(things, name, first, last)
                self.assertEqual([day for begin, end in found for day in range(begin, end + 1)], days)
                for one, other in zip(found, found[1:]):
                    self.assertGreater(other[0], one[1] + 1)
            for day in range(42):
                self.assertEqual(closed_names(things, day), tuple(sorted(naive_days.closed_on(things, day))))
                for name in ("north", "old"):
                    self.assertEqual(closed_on(things, name, day), name in naive_days.closed_on(things, day))

    def test_closed_names(self):
        for day, names in ((0, ("nowhere",)), (1, ()), (4, ("north", "old")), (10, ("north",)), (9999, ("nowhere",))):
            self.assertEqual(closed_names(self.things, day), names)
        self.assertEqual(closed_names(day=4, things=self.things), ("north", "old"))
        self.assertEqual(closed_names((), 4), ())

    def test_refusals(self):
        for name in NO_NAMES:
            for day in (5, -1, None):
                with self.assertRaises(BadName):
                    closed_on(self.things, name, day)
                with self.assertRaises(BadName):
                    closures(self.things, name, day, day)
            with self.assertRaises(BadName):
                closures((), name)
        for day in NO_DAYS:
            with self.assertRaises(BadDay):
                closed_on(self.things, "north", day)
            with self.assertRaises(BadDay):
                closures(self.things, "north", day)
            with self.assertRaises(BadDay):
                closures(self.things, "north", 0, day)
            with self.assertRaises(BadDay):
                closed_names(self.things, day)

    def test_new_lists(self):
        closures(self.things, "north").clear()
        self.assertEqual(closures(self.things, "north"), [(3, 6), (8, 25)])


# north: a b c; old: c b a d; loop: b e a b f; east: z y; west: y x
class Reasons(unittest.TestCase):
    things = put_all((
        ("book", 5, BOOK), ("book", 20, ((NORTH, EAST), (), (), ())), ("closed", "old", 7, 8), ("closed", "north", 8, 9),
        ("closed", "south", 0, 9999),
    ))
    legs = (("north", 0, 2), ("old", 0, 3), RIDE, ("east", 0, 1), ("west", 0, 1), RIDE, ("south", 0, 1), ("north", 0, 3))

    def test_words(self):
        self.assertEqual(
            reasons(self.things, 5, self.legs), ("", "", "ride", "", "", "ride", "section", "marks"),
        )
        self.assertEqual(
            reasons(self.things, 8, self.legs), ("closed", "closed", "ride", "", "", "ride", "section", "marks"),
        )
        self.assertEqual(
            reasons(self.things, 4, self.legs), ("book", "book", "ride", "book", "book", "ride", "book", "book"),
        )
        self.assertEqual(
            reasons(self.things, 20, self.legs), ("", "section", "ride", "", "section", "ride", "section", "marks"),
        )
        self.assertEqual(reasons((), 0, self.legs)[:3], ("book", "book", "ride"))

    def test_the_first_and_the_last_day_of_a_closing(self):
        for day, wanted in ((6, ("", "")), (7, ("", "closed")), (8, ("closed", "closed")), (9, ("closed", "")), (10, ("", ""))):
            self.assertEqual(reasons(self.things, day, self.legs[:2]), wanted)

    def test_broken(self):
        # north ends at c; loop begins at b.
        legs = (("loop", 0, 1), RIDE, ("north", 0, 2), ("loop", 0, 1), ("south", 0, 1), ("loop", 0, 7))
        self.assertEqual(reasons(self.things, 5, legs), ("broken", "ride", "broken", "broken", "section", "marks"))
        self.assertIs(is_sound(self.things, 5, legs), False)
        self.assertEqual(break_of(self.things, 5, legs), 2)
        self.assertEqual(counting(self.things, 5, legs), (False,) * 6)
        # north being closed nothing is asked beside it.
        self.assertEqual(reasons(self.things, 9, legs), ("", "ride", "closed", "", "section", "marks"))
        self.assertIs(is_sound(self.things, 9, legs), True)
        self.assertIsNone(break_of(self.things, 9, legs))
        self.assertEqual(counting(self.things, 9, legs), (True, False, False, True, False, False))
        # Without a BOOK nothing would count, and nothing is asked.
        self.assertIs(is_sound(self.things, 4, legs), True)
        self.assertIsNone(break_of(self.things, 4, legs))
        self.assertEqual(counting(self.things, 4, legs), (False,) * 6)

    def test_closed_goes_ahead_of_broken(self):
        legs = (("old", 0, 1), RIDE, ("north", 0, 2), ("loop", 0, 1))
        self.assertEqual(reasons(self.things, 7, legs), ("closed", "ride", "broken", "broken"))
        self.assertEqual(reasons(self.things, 7, legs + (("west", 1, 0),)), ("closed", "ride") + ("broken",) * 3)

    def test_marks_go_ahead_of_closed(self):
        self.assertEqual(reasons(self.things, 8, (("north", 0, 3), ("north", 3, 0), ("south", 0, 1))), ("marks", "marks", "section"))

    def test_places_of_a_break(self):
        one, back, far = ("north", 0, 1), ("north", 1, 0), ("east", 0, 1)
        for legs, place in (
            ((one,), None), ((one, back), None), ((one, one), 0), ((one, back, back), 1), ((one, back, far), 1), ((one, far, one), 0),
            ((one, RIDE, far), None), ((one, RIDE, far, far), 2), ((one, RIDE, one, back, back, far), 3), ((one, ("south", 0, 1), far), None),
            ((("south", 0, 1), one, far), 1), ((one, ("north", 7, 1), one), None), ((one, back) * 30, None), ((one, back) * 29 + (one, one), 58),
        ):
            self.assertEqual(break_of(self.things, 5, legs), place)
            self.assertIs(is_sound(self.things, 5, legs), place is None)
            self.assertEqual(break_of(legs=legs, day=5, things=self.things), place)

    def test_by_the_book_of_the_walks_own_day(self):
        # Of the later BOOK west is none: what follows it may begin anywhere.
        legs = (("east", 0, 1), ("west", 0, 1), ("north", 0, 1))
        self.assertEqual(reasons(self.things, 19, legs), ("broken",) * 3)
        self.assertEqual(reasons(self.things, 20, legs), ("", "section", ""))

    def test_by_chance(self):
        chance = random.Random(2)
        seen = set()
        for things in some_things(80):
            told = put_all(things)
            for day in DAYS:
                for book_day in (day, chance.choice(DAYS)):
                    legs = random_legs(chance, naive_days.book_on(things, book_day))
                    wanted = naive_days.reasons(things, day, legs)
                    seen |= set(wanted)
                    self.assertEqual(reasons(told, day, legs), wanted)
                    self.assertEqual(counting(told, day, legs), tuple(reason == "" for reason in wanted))
                    self.assertEqual(break_of(told, day, legs), naive_days.break_of(things, day, legs))
                    self.assertEqual(is_sound(told, day, legs), naive_days.break_of(things, day, legs) is None)
        self.assertEqual(seen, {"ride", "book", "section", "marks", "closed", "broken", ""})

    def test_kinds(self):
        for ask in (reasons, counting):
            self.assertIs(type(ask(self.things, 5, self.legs)), tuple)
            self.assertEqual(ask(legs=self.legs, things=self.things, day=5), ask(self.things, 5, self.legs))
        for one in counting(self.things, 5, self.legs):
            self.assertIs(type(one), bool)

    def test_refusals(self):
        for ask in (reasons, counting, is_sound, break_of):
            for things in ((), self.things):
                for day in NO_DAYS:
                    with self.assertRaises(BadDay):
                        ask(things, day, LEGS)
                    with self.assertRaises(BadDay):
                        ask(things, day, ())
                for legs in NO_LEGS:
                    with self.assertRaises(BadLegs):
                        ask(things, 5, legs)


class WalksOf(unittest.TestCase):
    things = put_all((
        ("walk", 9, "ann", LEGS), ("walk", 9, "ann", LEGS * 2), ("walk", 0, "ann", LEGS), ("walk", 9999, "ann", LEGS),
        ("walk", 5, "ben", LEGS), ("book", 3, BOOK), ("closed", "ann", 0, 9), ("walk", 5, "an", LEGS),
    ))

    def test_walks(self):
        whole = [(0, LEGS), (9, LEGS), (9, LEGS * 2), (9999, LEGS)]
        for last, many in ((9999, 4), (9998, 3), (9, 3), (8, 1), (0, 1)):
            self.assertEqual(walks_of(self.things, "ann", last), whole[:many])
        self.assertEqual(walks_of(self.things, "ann"), whole)
        self.assertEqual(walks_of(last=0, walker="ann", things=self.things), whole[:1])
        self.assertEqual(walks_of(self.things, "ben"), [(5, LEGS)])
        self.assertEqual(walks_of(self.things, "ben", 4), [])
        self.assertEqual(walks_of(self.things, "nobody"), [])
        self.assertEqual(walks_of((), "ann"), [])

    def test_by_chance(self):
        for things in some_things(20):
            for walker in WALKERS:
                for last in DAYS:
                    wanted = [(walk[1], walk[3]) for walk in naive_days.in_order(naive_days.walks(things, walker, last))]
                    self.assertEqual(walks_of(put_all(things), walker, last), wanted)

    def test_refusals(self):
        for walker in NO_NAMES:
            with self.assertRaises(BadName):
                walks_of(self.things, walker)
            with self.assertRaises(BadName):
                walks_of(self.things, walker, -1)
        for last in NO_DAYS:
            with self.assertRaises(BadDay):
                walks_of(self.things, "ann", last)
            with self.assertRaises(BadDay):
                walks_of((), "nobody", last)

    def test_a_new_list(self):
        walks_of(self.things, "ann").clear()
        self.assertEqual(len(walks_of(self.things, "ann")), 4)


class Same(unittest.TestCase):
    def test_asked_again(self):
        for things in some_things(10):
            told = put_all(things)
            twin = tuple(list(told))
            for ask in (
                lambda: [book_of(told, day) for day in DAYS], lambda: seasons(told), lambda: [closures(told, name) for name in NAMES],
                lambda: [closed_names(told, day) for day in DAYS],
            ):
                self.assertEqual(ask(), ask())
            self.assertEqual(told, twin)


if __name__ == "__main__":
    unittest.main()
