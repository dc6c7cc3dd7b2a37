"""Badges: what is held against them, what lacks, when they are gained, and what a walk brings."""

import itertools
import random
import unittest

from pathbook.badges import brought, gained, gained_on, held, lacking
from pathbook.calendar import put_in
from pathbook.errors import BadDay, BadLegs, BadName, NoBook
from tests import naive_days, naive_plans
from tests.sample_things import DAYS, WALKERS, random_legs, some_things
from tests.samples import ANYTHING, NO_KEYS

STRANGE = ANYTHING + NO_KEYS
NO_DAYS = STRANGE + (10000, "5", (5,))
NO_NAMES = STRANGE + (5, "Ann", "ann ", ("ann",))
NO_LEGS = STRANGE + ([("north", 0, 1)], ("north", 0, 1), (("ride",),), (("north", 1, 1),), (("north", 0, 1),) * 61)
RIDE = ("ride",)

NORTH = ("north", ("a", "b", "c"), ((10, 1, 2), (20, 3, 4)))
EAST = ("east", ("c", "d"), ((5, 7, 0),))
ALL = (("far", "length", 30), ("hill", "climb", 11), ("often", "days", 2), ("whole", "sections", 2))
BOOK = ((NORTH, EAST), (), (), ALL)
THERE, BACK, UP = ("north", 0, 2), ("north", 2, 0), ("east", 0, 1)


def put_all(things):
    told = ()
    for thing in things:
        told = put_in(told, thing)
    return told


def walk(day, *legs, walker="ann"):
    return ("walk", day, walker, legs)


class Held(unittest.TestCase):
    things = put_all((
        ("book", 5, BOOK), walk(6, ("north", 0, 1)), walk(7, ("north", 0, 1)), walk(7, THERE, UP), walk(9, UP, walker="ben"),
        ("book", 20, ((EAST,), (), (), (("hill", "days", 3), ("far", "length", 5)))),
    ))

    def test_each_sort(self):
        for day, far, hill, often, whole in ((5, 0, 0, 0, 0), (6, 10, 1, 1, 0), (7, 35, 1 + 1 + 4 + 7, 2, 2), (19, 35, 13, 2, 2)):
            for name, wanted in (("far", far), ("hill", hill), ("often", often), ("whole", whole)):
                self.assertEqual(held(self.things, "ann", name, day), wanted)
                self.assertEqual(held(day=day, name=name, walker="ann", things=self.things), wanted)
        # The LENGTH of STRETCHES is each one's once, by the BOOK OF the day that is asked for.
        self.assertEqual(held(self.things, "ann", "far", 20), 5)
        self.assertEqual(held(self.things, "ann", "hill"), 2)
        self.assertEqual(held(self.things, "nobody", "hill"), 0)
        self.assertEqual(held(self.things, "ben", "whole", 9), 1)

    def test_no_badge(self):
        self.assertIsNone(held(self.things, "ann", "nothing", 5))
        self.assertIsNone(held(self.things, "ann", "often"))
        self.assertIsNone(held(self.things, "ann", "north", 5))

    def test_by_chance(self):
        for things in some_things(40):
            told = put_all(things)
            for walker, day in itertools.product(WALKERS, DAYS):
                book = naive_days.book_on(things, day)
                for name in ("hill", "far", "north", "all"):
                    if book is not None:
                        found = [badge for badge in book[3] if badge[0] == name]
                        wanted = naive_plans.held(things, walker, found[0], day) if found else None
                        self.assertEqual(held(told, walker, name, day), wanted)

    def test_refusals(self):
        for walker in NO_NAMES:
            with self.assertRaises(BadName):
                held(self.things, walker, "far", -1)
            with self.assertRaises(BadName):
                held((), walker, "far")
        for name in NO_NAMES:
            with self.assertRaises(BadName):
                held(self.things, "ann", name, -1)
            with self.assertRaises(BadName):
                held((), "ann", name)
        for day in NO_DAYS:
            with self.assertRaises(BadDay):
                held((), "ann", "far", day)
        for things, day in ((self.things, 4), ((), 9999), ((), 0)):
            for name in ("far", "nothing"):
                with self.assertRaises(NoBook) as caught:
                    held(things, "ann", name, day)
                self.assertEqual(caught.exception.day, day)


class Gained(unittest.TestCase):
    def test_each_sort(self):
        things = put_all((("book", 5, BOOK), walk(6, ("north", 0, 1)), walk(7, ("north", 1, 2)), walk(9, UP)))
        whole = [(7, "far"), (7, "often"), (9, "hill"), (9, "whole")]
        self.assertEqual(gained(things, "ann"), whole)
        for last, many in ((0, 0), (6, 0), (7, 2), (8, 2), (9, 4), (9999, 4)):
            self.assertEqual(gained(things, "ann", last), whole[:many])
            self.assertEqual(gained(last=last, walker="ann", things=things), whole[:many])
        for name, day in (("far", 7), ("often", 7), ("hill", 9), ("whole", 9), ("nothing", None), ("ann", None)):
            self.assertEqual(gained_on(things, "ann", name), day)
            self.assertEqual(gained_on(last=9, name=name, walker="ann", things=things), day)
        self.assertIsNone(gained_on(things, "ann", "hill", 8))
        self.assertEqual(gained_on(things, "ann", "hill", 9), 9)
        self.assertEqual(gained(things, "nobody"), [])
        self.assertEqual(gained((), "ann"), [])

    def test_right_at_the_number(self):
        for number, wanted in ((29, [(6, "far")]), (30, [(6, "far")]), (31, [])):
            things = put_all((("book", 5, ((NORTH,), (), (), (("far", "length", number),))), walk(6, THERE)))
            self.assertEqual(gained(things, "ann"), wanted)
        for number, wanted in ((1, [(6, "far")]), (2, [(8, "far")]), (3, [])):
            things = put_all((("book", 5, ((NORTH,), (), (), (("far", "days", number),))), walk(6, THERE), walk(6, BACK), walk(8, THERE)))
            self.assertEqual(gained(things, "ann"), wanted)

    def test_it_stands_whatever_later_books_ask(self):
        more = ((NORTH, EAST), (), (), (("far", "length", 99999), ("hill", "sections", 8)))
        none = ((EAST,), (), (), ())
        things = put_all((("book", 5, BOOK), walk(6, THERE), ("book", 10, more), ("book", 20, none)))
        self.assertEqual(gained(things, "ann"), [(6, "far")])
        self.assertEqual(lacking(things, "ann", 10), [("far", 0), ("hill", 7)])
        self.assertEqual(lacking(things, "ann"), [])
        self.assertEqual(lacking(things, "ann", 9), [("far", 0), ("hill", 7), ("often", 1), ("whole", 1)])

    def test_gained_on_the_day_of_a_book(self):
        less = ((NORTH, EAST), (), (), (("far", "length", 10), ("hill", "climb", 4), ("new", "sections", 1)))
        things = put_all((("book", 5, BOOK), walk(6, ("north", 0, 1)), walk(7, ("north", 1, 0)), ("book", 12, less)))
        self.assertEqual(gained(things, "ann"), [(7, "often"), (12, "far")])
        # Of a BOOK that leaves a SECTION out all that is left of it may be done.
        part = ((("north", ("a", "b"), ((10, 1, 2),)),), (), (), (("whole", "sections", 1),))
        self.assertEqual(gained(put_in(things, ("book", 13, part)), "ann"), [(7, "often"), (12, "far"), (13, "whole")])

    def test_a_badge_of_another_sort_has_the_same_name(self):
        other = ((NORTH,), (), (), (("far", "days", 1),))
        things = put_all((("book", 5, BOOK), walk(6, ("north", 0, 1)), ("book", 8, other), walk(9, THERE)))
        self.assertEqual(gained(things, "ann"), [(8, "far")])
        self.assertEqual(gained_on(things, "ann", "far", 7), None)

    def test_closings_and_broken_walks(self):
        things = put_all((("book", 5, BOOK), walk(6, THERE), ("closed", "north", 6, 6), walk(7, THERE, ("north", 0, 1)), walk(8, BACK)))
        self.assertEqual(gained(things, "ann"), [(8, "far")])

    def test_the_first_day_and_the_last(self):
        things = put_all((("book", 0, BOOK), walk(0, THERE), walk(9999, BACK)))
        self.assertEqual(gained(things, "ann"), [(0, "far"), (9999, "often")])
        self.assertEqual(gained(things, "ann", 0), [(0, "far")])
        self.assertEqual(gained(things, "ann", 9998), [(0, "far")])

    def test_by_chance(self):
        many = 0
        for things in some_things(80):
            told = put_all(things)
            for walker, last in itertools.product(WALKERS, (0, 2, 5, 9998, 9999)):
                wanted = naive_plans.gained(things, walker, last)
                many += len(wanted)
                self.assertEqual(gained(told, walker, last), sorted((day, name) for name, day in wanted.items()))
                for name in ("hill", "far", "north", "all", "nothing"):
                    self.assertEqual(gained_on(told, walker, name, last), wanted.get(name))
        self.assertGreater(many, 200)

    def test_ninety_nine(self):
        legs = [(("north", i, j),) for i in range(3) for j in range(3) if i != j]
        walks = [walk(day, *one) for day in range(6, 26) for one in legs][:98]
        things = put_all([("book", 5, ((NORTH,), (), (), (("often", "days", 17), ("hill", "climb", 200), ("far", "length", 30))))] + walks)
        self.assertEqual(len(things), 99)
        wanted = naive_plans.gained(things, "ann", 9999)
        self.assertEqual(gained(things, "ann"), sorted((day, name) for name, day in wanted.items()))
        self.assertEqual(len(wanted), 3)

    def test_refusals(self):
        for walker in NO_NAMES:
            with self.assertRaises(BadName):
                gained((), walker, -1)
            with self.assertRaises(BadName):
                gained_on((), walker, "far", -1)
            with self.assertRaises(BadName):
                gained_on((), "ann", walker, -1)
        for last in NO_DAYS:
            with self.assertRaises(BadDay):
                gained((), "ann", last)
            with self.assertRaises(BadDay):
                gained_on((), "ann", "far", last)

    def test_the_asker_s_own(self):
        things = put_all((("book", 5, BOOK), walk(6, THERE)))
        gained(things, "ann").clear()
        lacking(things, "ann").clear()
        self.assertEqual(gained(things, "ann"), [(6, "far")])
        self.assertEqual(len(lacking(things, "ann")), 4)


class Lacking(unittest.TestCase):
    def test_examples(self):
        things = put_all((("book", 5, BOOK), walk(6, ("north", 0, 1)), walk(9, THERE, UP)))
        for day, wanted in (
            (5, [("far", 30), ("hill", 11), ("often", 2), ("whole", 2)]), (6, [("far", 20), ("hill", 10), ("often", 1), ("whole", 2)]),
            (9, [("far", 0), ("hill", 0), ("often", 0), ("whole", 0)]),
        ):
            self.assertEqual(lacking(things, "ann", day), wanted)
            self.assertEqual(lacking(day=day, walker="ann", things=things), wanted)
        self.assertEqual(lacking(things, "nobody"), [("far", 30), ("hill", 11), ("often", 2), ("whole", 2)])

    def test_by_chance(self):
        for things in some_things(40):
            told = put_all(things)
            for walker, day in itertools.product(WALKERS, DAYS):
                book = naive_days.book_on(things, day)
                if book is not None:
                    have = naive_plans.gained(things, walker, day)
                    wanted = [
                        (badge[0], 0 if badge[0] in have else badge[2] - naive_plans.held(things, walker, badge, day))
                        for badge in book[3]
                    ]
                    self.assertEqual(lacking(told, walker, day), wanted)

    def test_refusals(self):
        for walker in NO_NAMES:
            with self.assertRaises(BadName):
                lacking((), walker, -1)
        for day in NO_DAYS:
            with self.assertRaises(BadDay):
                lacking((), "ann", day)
        for things, day in ((put_all((("book", 5, BOOK),)), 4), ((), 9999)):
            with self.assertRaises(NoBook) as caught:
                lacking(things, "ann", day)
            self.assertEqual(caught.exception.day, day)


class Brought(unittest.TestCase):
    def test_examples(self):
        things = put_all((("book", 5, BOOK), walk(6, ("north", 0, 1)), walk(9, THERE)))
        self.assertEqual(gained(things, "ann"), [(9, "far"), (9, "often")])
        # Told or not, the same.
        for told in (things, put_all([thing for thing in things if thing != walk(9, THERE)])):
            self.assertEqual(brought(told, "ann", 9, (THERE,)), [(9, "far"), (9, "often")])
            self.assertEqual(brought(legs=(THERE,), day=9, walker="ann", things=told), [(9, "far"), (9, "often")])
        # A walk ahead lets them be gained on another DAY.
        self.assertEqual(brought(things, "ann", 6, (THERE,)), [(6, "far")])
        self.assertEqual(brought(things, "ann", 7, (("north", 1, 2),)), [(7, "far"), (7, "often")])
        self.assertEqual(brought(things, "ann", 10, (THERE,)), [])
        self.assertEqual(brought(things, "ann", 10, (UP,)), [(10, "hill"), (10, "whole")])
        # It is a later DAY's badge that the walk of an earlier one brings.
        self.assertEqual(brought(things, "ann", 6, (("north", 0, 1),)), [(9, "often")])
        self.assertEqual(brought(things, "ben", 9, (THERE,)), [(9, "far")])
        self.assertEqual(brought(things, "ann", 4, (THERE,)), [])
        self.assertEqual(brought((), "ann", 4, (THERE,)), [])

    def test_ninety_nine(self):
        legs = [(("north", i, j), RIDE, ("nowhere", k, 7)) for i in range(3) for j in range(3) if i != j for k in range(7)]
        walks = [("walk", day, "zoe", one) for day in (6, 7, 8) for one in legs][:98]
        things = put_all([("book", 5, BOOK)] + walks)
        self.assertEqual(len(things), 99)
        self.assertEqual(brought(things, "ann", 9, (THERE,)), [(9, "far")])
        self.assertEqual(brought(things, "zoe", 9, (UP,)), [(9, "whole")])
        self.assertEqual(brought(things, "zoe", 6, walks[0][3]), [])
        self.assertEqual(len(things), 99)

    def test_by_chance(self):
        chance = random.Random(9)
        many = 0
        for things in some_things(60):
            told = put_all(things)
            walks = [thing for thing in things if thing[0] == "walk"]
            for k in range(3):
                day = chance.choice(DAYS)
                walks.append(("walk", day, chance.choice(WALKERS), random_legs(chance, naive_days.book_on(things, day))))
            for one in walks:
                others = [thing for thing in things if thing != one]
                have = naive_plans.gained(others + [one], one[2], 9999)
                had = naive_plans.gained(others, one[2], 9999)
                wanted = sorted((day, name) for name, day in have.items() if had.get(name) != day)
                many += len(wanted)
                self.assertEqual(brought(told, one[2], one[1], one[3]), wanted)
            self.assertEqual(told, put_all(things))
        self.assertGreater(many, 50)

    def test_refusals(self):
        for things in ((), put_all((("book", 5, BOOK),))):
            for walker in NO_NAMES:
                with self.assertRaises(BadName):
                    brought(things, walker, -1, ())
            for day in NO_DAYS:
                with self.assertRaises(BadDay):
                    brought(things, "ann", day, ())
            for legs in NO_LEGS:
                with self.assertRaises(BadLegs):
                    brought(things, "ann", 5, legs)


if __name__ == "__main__":
    unittest.main()
