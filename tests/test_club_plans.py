"""PLANS of what is LEFT to a WALKER, ROUNDS, what is STUCK, and DAYS that are FREE."""

import itertools
import random
import unittest

from pathbook.club import Club
from pathbook.errors import BadDay, BadName, NoBook, TooMany
from pathbook.plans import bits, first_free, left_bits, need_plan, plan, plan_for, rounds, stuck, things_for
from tests import naive_days, naive_plans
from tests.sample_things import DAYS, WALKERS, random_halts, random_section, some_things
from tests.samples import ANYTHING, NO_KEYS, letters
from tests.test_plans import FLOWER, RING_PAIRS, RINGS, section

STRANGE = ANYTHING + NO_KEYS
NO_DAYS = STRANGE + (10000, "5", (5,))
NO_NAMES = STRANGE + (5, "Ann", "ann ", ("ann",))
OF_A_BOOK = (left_bits, plan_for, things_for, rounds, stuck)


def state(club):
    return (club.things(), club.changes())


def idle_walks(many, day=0):
    """So many walks of somebody else."""
    legs = [(("nowhere", i, j),) for i in range(8) for j in range(8) if i != j]
    legs += [one + (("nowhere", 0, 1),) for one in legs]
    return tuple(("walk", day, "zoe", one) for one in legs[:many])


# ring: h x y, a HALT; side beside it hangs on the path p m q, which isn't CLEAR as long as side is LEFT.
ROUNDS_BOOK = (
    (section("ring", "h x y h"), section("side", "m n"), section("path", "p m q")), ("h", "p", "q"), (("ring", "side"),), (),
)
# Three of them, one behind the other: each BIT is CLEAR when what hangs on it is EXCUSED.
CHAIN_BOOK = (
    (
        section("one", "a b"), section("sideone", "d k"), section("two", "c d e"), section("sidetwo", "g l"), section("three", "f g i"),
        section("last", "r s"),
    ),
    ("a", "b", "c", "e", "f", "i", "r"), (("one", "sideone"), ("sidetwo", "two")), (),
)


class OfWhatIsLeft(unittest.TestCase):
    def test_examples(self):
        club = Club((("book", 5, ROUNDS_BOOK), ("closed", "ring", 20, 30), ("walk", 40, "ann", (("path", 0, 1),))))
        ring = (("ring", 0), ("ring", 1), ("ring", 2))
        rest = (("side", 0), ("path", 0), ("path", 1))
        self.assertEqual(left_bits(club, "ann", 5), [ring, rest])
        self.assertEqual(left_bits(club, "ann", 5, True), [ring])
        self.assertEqual(left_bits(club, "ann", 5, False), [rest])
        self.assertEqual(left_bits(clear=None, day=20, walker="ann", club=club), [rest])
        self.assertEqual(left_bits(club, "ann", 40), [ring, (("side", 0), ("path", 1))])
        self.assertEqual(len(plan_for(club, "ann", 5)), 1)
        self.assertEqual(plan_for(club, "ann", 20), ())
        self.assertEqual(things_for(club, "ann", 20), ())
        self.assertEqual(plan_for(short=False, day=5, walker="ann", club=club), plan_for(club, "ann", 5, False))
        self.assertEqual(len(plan_for(club, "ann", 5, False)[0]), 3)
        self.assertEqual(things_for(club, "ann", 5), (("walk", 5, "ann", plan_for(club, "ann", 5)[0]),))
        self.assertEqual(things_for(day=5, club=club, walker="ann"), things_for(club, "ann", 5))

    def test_by_chance(self):
        many = 0
        for things in some_things(25):
            club = Club(tuple(things))
            before = state(club)
            for walker, day in itertools.product(WALKERS, DAYS):
                book = naive_days.book_on(things, day)
                if book is None:
                    continue
                pairs = naive_plans.left(things, walker, day)
                self.assertEqual(left_bits(club, walker, day), naive_plans.bits(book, pairs))
                for clear in (True, False, None):
                    self.assertEqual(left_bits(club, walker, day, clear), bits(book, tuple(pairs), clear))
                for short in (True, False):
                    found = plan_for(club, walker, day, short)
                    need_plan(book, tuple(pairs), found)
                    self.assertEqual(found, plan(book, tuple(pairs), short))
                found = things_for(club, walker, day)
                many += len(found)
                self.assertIs(type(found), tuple)
                self.assertEqual([thing[:3] for thing in found], [("walk", day, walker)] * len(found))
                need_plan(book, tuple(pairs), tuple(thing[3] for thing in found))
            self.assertEqual(state(club), before)
        self.assertGreater(many, 20)

    def test_told_they_are_done(self):
        for things in some_things(25):
            club = Club(tuple(things))
            for walker, day in itertools.product(WALKERS, (3, 9999)):
                if naive_days.book_on(things, day) is None:
                    continue
                twin = club.twin()
                clear = [pair for bit in left_bits(club, walker, day, True) for pair in bit]
                for thing in things_for(club, walker, day):
                    self.assertIs(twin.tell(thing), True)
                self.assertTrue(set(clear) <= set(twin.done(walker, day)))


class Rounds(unittest.TestCase):
    def walked(self, club, walker, day):
        """The ROUNDS, told one behind the other to a twin: each a PLAN of what is LEFT by then."""
        twin = club.twin()
        for walks in rounds(club, walker, day):
            self.assertGreater(len(walks), 0)
            need_plan(twin.book_of(day), tuple(twin.left(walker, day)), walks)
            for legs in walks:
                self.assertIs(twin.tell(("walk", day, walker, legs)), True)
        self.assertEqual(plan_for(twin, walker, day), ())
        self.assertEqual(stuck(club, walker, day), twin.left(walker, day))

    def test_a_second_round(self):
        club = Club((("book", 5, ROUNDS_BOOK),))
        before = state(club)
        self.assertEqual([len(walks) for walks in rounds(club, "ann", 5)], [1, 1])
        self.assertEqual(stuck(club, "ann", 5), [])
        self.walked(club, "ann", 5)
        self.assertEqual(state(club), before)
        self.assertEqual(rounds(day=5, walker="ann", club=club), rounds(club, "ann", 5))
        self.assertIs(type(rounds(club, "ann", 5)), list)
        self.assertIs(type(rounds(club, "ann", 5)[0]), tuple)
        rounds(club, "ann", 5).clear()
        self.assertEqual(len(rounds(club, "ann", 5)), 2)

    def test_three_rounds_and_what_is_stuck(self):
        club = Club((("book", 0, CHAIN_BOOK),))
        self.assertEqual([len(walks) for walks in rounds(club, "ann", 0)], [1, 1, 1])
        self.assertEqual(stuck(club, "ann", 0), [("last", 0)])
        self.walked(club, "ann", 0)
        self.assertEqual(naive_plans.rounds_and_stuck(club.things(), "ann", 0), ([1, 1, 1], [("last", 0)]))

    def test_none(self):
        closed = Club((("book", 5, ROUNDS_BOOK), ("closed", "ring", 20, 30)))
        self.assertEqual(rounds(closed, "ann", 20), [])
        self.assertEqual(stuck(day=20, club=closed, walker="ann"), [("side", 0), ("path", 0), ("path", 1)])
        done = Club((("book", 0, FLOWER),) + things_for(Club((("book", 0, FLOWER),)), "ann", 0))
        self.assertEqual(rounds(done, "ann", 0), [])
        self.assertEqual(stuck(done, "ann", 0), [])

    def test_too_many(self):
        for many, refused in ((96, False), (97, True), (98, True)):
            club = Club((("book", 0, ROUNDS_BOOK),) + idle_walks(many))
            before = state(club)
            for ask in (rounds, stuck):
                if refused:
                    with self.assertRaises(TooMany) as caught:
                        ask(club, "ann", 0)
                    self.assertEqual(caught.exception.most, 99)
                else:
                    ask(club, "ann", 0)
            self.assertEqual(state(club), before)
        # Where there is nothing to be walked ninety-nine THINGS are none too many.
        club = Club((("book", 0, ROUNDS_BOOK), ("closed", "ring", 0, 0)) + idle_walks(97))
        self.assertEqual(len(club), 99)
        self.assertEqual(rounds(club, "ann", 0), [])
        self.assertEqual(len(stuck(club, "ann", 0)), 3)
        self.assertEqual(len(plan_for(Club((("book", 0, ROUNDS_BOOK),) + idle_walks(98)), "ann", 0)), 1)

    def test_sixteen_walks(self):
        names = [name for name, k in RING_PAIRS]
        walks = tuple(("walk", 0, "ann", ((name, 3, 4),)) for name in dict.fromkeys(names))
        for many, refused in ((74, False), (75, True)):
            club = Club((("book", 0, RINGS),) + walks + idle_walks(many))
            if refused:
                with self.assertRaises(TooMany):
                    rounds(club, "ann", 0)
            else:
                self.assertEqual([len(one) for one in rounds(club, "ann", 0)], [16])
                self.assertEqual(stuck(club, "ann", 0), [])

    def test_by_chance(self):
        for things in some_things(40):
            club = Club(tuple(things))
            for walker, day in itertools.product(WALKERS, (0, 3, 9999)):
                if naive_days.book_on(things, day) is not None:
                    many, rest = naive_plans.rounds_and_stuck(things, walker, day)
                    self.assertEqual([len(walks) for walks in rounds(club, walker, day)], many)
                    self.assertEqual(stuck(club, walker, day), rest)
                    self.walked(club, walker, day)

    def test_besides_by_chance(self):
        # Short SECTIONS, many of them beside one another: several ROUNDS come about.
        chance = random.Random(7)
        seen = set()
        for k in range(400):
            names = list(letters(8, "q"))
            sections = tuple(
                (name, marks[:3], stretches[:2]) for name, marks, stretches in
                [random_section(chance, name, letters(12)) for name in names]
            )
            chance.shuffle(names)
            besides = tuple(tuple(names[at:at + 2]) for at in (0, 2, 4, 6))
            club = Club((("book", 3, (sections, random_halts(chance, sections, 0.8), besides, ())),))
            many, rest = naive_plans.rounds_and_stuck(club.things(), "ann", 3)
            seen.add(len(many))
            self.assertEqual([len(walks) for walks in rounds(club, "ann", 3)], many)
            self.assertEqual(stuck(club, "ann", 3), rest)
            self.walked(club, "ann", 3)
        self.assertTrue({0, 1, 2} <= seen, seen)


class Free(unittest.TestCase):
    def test_examples(self):
        club = Club((
            ("book", 5, ROUNDS_BOOK), ("closed", "side", 10, 12), ("walk", 20, "ann", (("ring", 0, 3),)), ("walk", 30, "ann", (("path", 0, 2),)),
            ("book", 40, ((section("new", "h i"),), ("h",), (), ())), ("book", 9999, ((section("new", "h i"),), ("h", "i"), (), ())),
        ))
        # While side is closed all is CLEAR; once the ring is done side is excused; then nothing is LEFT.
        for day, wanted in ((0, 10), (5, 10), (10, 10), (12, 12), (13, 20), (20, 20), (25, 25), (29, 29), (30, 9999), (40, 9999), (9999, 9999)):
            self.assertEqual(first_free(club, "ann", day), wanted)
        self.assertEqual(first_free(day=13, walker="ben", club=club), 9999)
        self.assertIsNone(first_free(Club(), "ann", 0))
        self.assertIsNone(first_free(Club((("book", 5, ((section("x", "a b"),), ("a",), (), ())),)), "ann", 0))

    def test_ahead_of_the_first_book(self):
        club = Club((("book", 9999, ((section("x", "a b"),), ("a", "b"), (), ())),))
        self.assertEqual(first_free(club, "ann", 0), 9999)
        closed = Club(club.things() + (("closed", "x", 0, 9999),))
        self.assertIsNone(first_free(closed, "ann", 0))
        self.assertIsNone(first_free(closed, "ann", 9999))

    def test_day_by_day(self):
        days = list(range(13)) + list(range(9990, 10000))
        found = set()
        for things in some_things(25):
            club = Club(tuple(things))
            for walker in WALKERS:
                free = [day for day in days if naive_plans.is_free(things, walker, day)]
                for day in days:
                    wanted = [one for one in free if one >= day]
                    # From one on that is within a long while of the same, that very DAY.
                    self.assertEqual(first_free(club, walker, day), wanted[0] if wanted else None)
                    found.add(bool(wanted))
        self.assertEqual(found, {True, False})

    def test_refusals(self):
        for club in (Club(), Club((("book", 5, ROUNDS_BOOK),))):
            for walker in NO_NAMES:
                with self.assertRaises(BadName):
                    first_free(club, walker, 5)
                with self.assertRaises(BadName):
                    first_free(club, walker, -1)
            for day in NO_DAYS:
                with self.assertRaises(BadDay):
                    first_free(club, "ann", day)
        self.assertIsNone(first_free(Club(), "ann", 5))


class Refusals(unittest.TestCase):
    def test_of_a_book(self):
        for club, ask in itertools.product((Club(), Club((("book", 5, ROUNDS_BOOK),) + idle_walks(98))), OF_A_BOOK):
            for walker in NO_NAMES:
                with self.assertRaises(BadName):
                    ask(club, walker, 5)
                with self.assertRaises(BadName):
                    ask(club, walker, -1)
            for day in NO_DAYS:
                with self.assertRaises(BadDay):
                    ask(club, "ann", day)
            for day in (0, 4):
                with self.assertRaises(NoBook) as caught:
                    ask(club, "ann", day)
                self.assertEqual(caught.exception.day, day)


if __name__ == "__main__":
    unittest.main()
