"""THINGS: what is one, how they are put in and taken out, and in which order they are kept."""

import itertools
import random
import unittest

from pathbook.calendar import book_of, need_thing, put_in, taken_out
from pathbook.errors import BadThing, NotTold, PathError, SecondBook, TooMany
from tests import naive_days
from tests.sample_texts import BOOKS, EVERY_LEGS, RIDE, THINGS
from tests.sample_things import some_things
from tests.samples import ANYTHING, BOOK, EAST, NO_KEYS, PLAIN, WEST, Like, Odd, put

STRANGE = ANYTHING + NO_KEYS
LEGS = (("north", 0, 2), RIDE, ("east", 0, 1))
BOOK_THING = ("book", 5, PLAIN)
CLOSED = ("closed", "north", 3, 9)
WALK = ("walk", 12, "ann", LEGS)

NO_THINGS = (
    # the word
    ("books", 5, PLAIN), ("Book", 5, PLAIN), ("", 5, PLAIN), (b"book", 5, PLAIN), (None, 5, PLAIN), (Like(), 5, PLAIN),
    ("walk", 5, PLAIN), ("closed", 5, PLAIN), ("book", "north", 3, 9), ("walk", "north", 3, 9), ("book", 12, "ann", LEGS),
    ("closed", 12, "ann", LEGS), (Like(), "north", 3, 9), (Like(), 12, "ann", LEGS), (["walk"], 12, "ann", LEGS),
    # too few, too many, no tuple
    ("book",), ("book", 5), ("book", 5, PLAIN, ()), BOOK_THING + (5,), ("closed",), ("closed", "north"), ("closed", "north", 3),
    CLOSED + (9,), ("walk",), ("walk", 12), ("walk", 12, "ann"), WALK + ((),), list(BOOK_THING), list(CLOSED), list(WALK),
    "book 5 section east z 3 0 0 y", "closed north 3 9", "walk 12 ann north 0 2", (BOOK_THING,), (CLOSED,), (WALK,), PLAIN, LEGS,
    # a book
    ("book", -1, PLAIN), ("book", 10000, PLAIN), ("book", True, PLAIN), ("book", False, PLAIN), ("book", "5", PLAIN),
    ("book", 5, put(PLAIN, 0, ())), ("book", 5, list(PLAIN)), ("book", 5, put(PLAIN, 1, ("q",))), ("book", 5, PLAIN[:3]),
    ("book", 5, put(PLAIN, 3, (("a", "climb", 0),))), ("book", 5, put(PLAIN, 0, (EAST, EAST))), ("book", 5, EAST),
    # a closing
    ("closed", "North", 3, 9), ("closed", "", 3, 9), ("closed", "abcdefghi", 3, 9), ("closed", 5, 3, 9), ("closed", "north", -1, 9),
    ("closed", "north", 3, 10000), ("closed", "north", 10000, 10000), ("closed", "north", 9, 3), ("closed", "north", 1, 0),
    ("closed", "north", True, 9), ("closed", "north", 0, True), ("closed", "north", False, False), ("closed", "north", "3", 9),
    ("closed", "north", 3, "9"), ("closed", "north", 3, None), ("closed", "north", None, 9), ("closed", "north", 9999, 9998),
    # a walk
    ("walk", -1, "ann", LEGS), ("walk", 10000, "ann", LEGS), ("walk", True, "ann", LEGS), ("walk", "12", "ann", LEGS),
    ("walk", 12, "Ann", LEGS), ("walk", 12, "", LEGS), ("walk", 12, "abcdefghi", LEGS), ("walk", 12, 5, LEGS),
    ("walk", 12, "ann", ()), ("walk", 12, "ann", list(LEGS)), ("walk", 12, "ann", LEGS + (RIDE,)), ("walk", 12, "ann", LEGS[1:]),
    ("walk", 12, "ann", (("north", 1, 1),)), ("walk", 12, "ann", (("north", 0, 8),)), ("walk", 12, "ann", LEGS[0]),
    ("walk", 12, "ann", (("north", 0, 1),) * 61), ("walk", 12, "ann", (LEGS[0], RIDE, RIDE, LEGS[0])),
)


def put_all(things):
    told = ()
    for thing in things:
        told = put_in(told, thing)
    return told


def walks(many, day=5):
    """So many walks, rising."""
    legs = [leg for leg in EVERY_LEGS if len(leg) == 1]
    return tuple(("walk", day, "ann", one) for one in sorted(legs)[:many])


class Need(unittest.TestCase):
    def test_things(self):
        for thing in THINGS + (BOOK_THING, CLOSED, WALK):
            self.assertIsNone(need_thing(thing))
        self.assertIsNone(need_thing(thing=WALK))

    def test_bounds(self):
        for day in (0, 1, 9998, 9999):
            need_thing(("book", day, BOOK))
            need_thing(("closed", "a", day, day))
            need_thing(("closed", "abcdefgh", 0, day))
            need_thing(("closed", "abcdefgh", day, 9999))
            need_thing(("walk", day, "a", LEGS))
            need_thing(("walk", day, "abcdefgh", LEGS[:1]))
        for book in BOOKS:
            need_thing(("book", 5, book))
        for legs in EVERY_LEGS:
            need_thing(("walk", 5, "ann", legs))

    def test_no_things(self):
        for thing in STRANGE + NO_THINGS:
            with self.assertRaises(BadThing):
                need_thing(thing)

    def test_each_part_of_any_kind(self):
        for good in (BOOK_THING, CLOSED, WALK):
            for at in range(len(good)):
                for part in STRANGE:
                    with self.assertRaises(BadThing, msg=(good, at)):
                        need_thing(put(good, at, part))

    def test_a_refusal_of_its_own(self):
        for thing in (("book", -1, PLAIN), ("book", 5, ()), ("walk", 5, "Ann", LEGS), ("walk", 5, "ann", ())):
            try:
                need_thing(thing)
            except PathError as why:
                self.assertIs(type(why), BadThing)

    def test_what_is_handed_in_stays(self):
        legs = [["north", 0, 1]]
        with self.assertRaises(BadThing):
            need_thing(("walk", 5, "ann", legs))
        self.assertEqual(legs, [["north", 0, 1]])


class PutIn(unittest.TestCase):
    def test_first(self):
        for thing in THINGS:
            self.assertEqual(put_in((), thing), (thing,))
        self.assertIs(type(put_in((), WALK)), tuple)
        self.assertEqual(put_in(thing=WALK, things=()), (WALK,))

    def test_twice_is_once(self):
        for thing in THINGS:
            self.assertEqual(put_in((thing,), thing), (thing,))
        told = put_all((BOOK_THING, CLOSED, WALK))
        # A twin, not the very same.
        for twin in (("book", 5, tuple(list(PLAIN))), ("closed", "north", 3, 9), ("walk", 12, "ann", tuple(list(LEGS)))):
            self.assertEqual(put_in(told, twin), (BOOK_THING, CLOSED, WALK))

    def test_things_stay(self):
        told = (BOOK_THING, CLOSED)
        self.assertEqual(len(put_in(told, WALK)), 3)
        self.assertEqual(told, (BOOK_THING, CLOSED))
        self.assertEqual(put_in(told, WALK), put_in(told, WALK))

    def test_order(self):
        rising = (
            ("book", 0, BOOK), ("book", 7, PLAIN), ("book", 10, BOOK), ("book", 9999, PLAIN),
            ("closed", "a", 5, 5), ("closed", "aa", 0, 0), ("closed", "aa", 0, 9), ("closed", "aa", 0, 10),
            ("closed", "aa", 5, 5), ("closed", "aa", 10, 10), ("closed", "b", 0, 0),
            ("walk", 0, "b", (("b", 0, 1),)), ("walk", 9, "a", (("a", 0, 1),)), ("walk", 9, "a", (("a", 0, 1), ("a", 1, 0))),
            ("walk", 9, "a", (("a", 0, 1), RIDE, ("a", 0, 1))), ("walk", 9, "a", (("a", 0, 1), ("ride", 0, 1))),
            ("walk", 9, "a", (("a", 0, 2),)), ("walk", 9, "a", (("a", 1, 0),)), ("walk", 9, "a", (("aa", 0, 1),)),
            ("walk", 9, "aa", (("a", 0, 1),)), ("walk", 10, "a", (("a", 0, 1),)), ("walk", 9999, "a", (("a", 0, 1),)),
        )
        chance = random.Random(5)
        for k in range(40):
            mixed = list(rising)
            chance.shuffle(mixed)
            self.assertEqual(put_all(mixed), rising)

    def test_every_order_comes_to_the_same(self):
        things = (("book", 3, BOOK), ("book", 0, PLAIN), CLOSED, WALK, ("walk", 12, "ann", LEGS[:1]))
        for mixed in itertools.permutations(things):
            self.assertEqual(put_all(mixed), naive_days.in_order(things))

    def test_by_chance(self):
        for things in some_things(60):
            self.assertEqual(put_all(things), naive_days.in_order(things))
            self.assertEqual(put_all(things[::-1] + things), naive_days.in_order(things))

    def test_walks_of_a_day_with_other_legs_are_two(self):
        other = ("walk", 12, "ann", LEGS[:1])
        self.assertEqual(put_all((WALK, other)), (other, WALK))

    def test_second_book(self):
        told = put_all((BOOK_THING, ("book", 9999, PLAIN), ("book", 0, PLAIN)))
        for day in (0, 5, 9999):
            with self.assertRaises(SecondBook) as caught:
                put_in(told, ("book", day, BOOK))
            self.assertEqual(caught.exception.day, day)
        self.assertEqual(len(put_in(told, ("book", 4, BOOK))), 4)
        self.assertEqual(len(put_in(told, ("book", 6, PLAIN))), 4)

    def test_too_many(self):
        told = walks(99)
        self.assertEqual(len(put_all(told)), 99)
        self.assertEqual(len(put_in(told[:98], CLOSED)), 99)
        for thing in (WALK, CLOSED, BOOK_THING):
            with self.assertRaises(TooMany) as caught:
                put_in(told, thing)
            self.assertEqual(caught.exception.most, 99)
        # What is told already is none too many.
        for thing in told:
            self.assertEqual(put_in(told, thing), told)

    def test_the_order_of_refusals(self):
        told = put_all((BOOK_THING,) + walks(98))
        self.assertEqual(len(told), 99)
        for thing in (("book", 5, ()), ("book", -1, PLAIN), ("walk", 12, "ann", ()), None):
            with self.assertRaises(BadThing):
                put_in(told, thing)
        with self.assertRaises(SecondBook):
            put_in(told, ("book", 5, BOOK))
        with self.assertRaises(TooMany):
            put_in(told, ("book", 6, BOOK))
        self.assertEqual(put_in(told, BOOK_THING), told)

    def test_bad_thing(self):
        for thing in STRANGE + NO_THINGS:
            with self.assertRaises(BadThing):
                put_in((BOOK_THING, CLOSED, WALK), thing)


class TakenOut(unittest.TestCase):
    def test_each_one(self):
        for things in some_things(20):
            told = put_all(things)
            for thing in things:
                rest = taken_out(told, thing)
                self.assertIs(type(rest), tuple)
                self.assertEqual(rest, naive_days.in_order([one for one in things if one != thing]))
                self.assertEqual(put_in(rest, thing), told)
            self.assertEqual(told, naive_days.in_order(things))

    def test_all(self):
        self.assertEqual(taken_out((WALK,), WALK), ())
        self.assertEqual(taken_out(thing=WALK, things=(CLOSED, WALK)), (CLOSED,))

    def test_not_told(self):
        told = (BOOK_THING, CLOSED, WALK)
        for thing in (
            ("book", 5, BOOK), ("book", 6, PLAIN), ("closed", "north", 3, 8), ("closed", "north", 4, 9), ("closed", "east", 3, 9),
            ("walk", 12, "ann", LEGS[:1]), ("walk", 12, "ben", LEGS), ("walk", 13, "ann", LEGS),
        ):
            with self.assertRaises(NotTold):
                taken_out(told, thing)
            with self.assertRaises(NotTold):
                taken_out((), thing)
        with self.assertRaises(NotTold):
            taken_out(taken_out(told, WALK), WALK)

    def test_bad_thing(self):
        for thing in STRANGE + NO_THINGS:
            with self.assertRaises(BadThing):
                taken_out((BOOK_THING, CLOSED, WALK), thing)
            with self.assertRaises(BadThing):
                taken_out((), thing)

    def test_another_book_behind_it(self):
        told = taken_out((BOOK_THING, WALK), BOOK_THING)
        told = put_in(told, ("book", 5, BOOK))
        self.assertEqual(book_of(told, 5), BOOK)
        with self.assertRaises(SecondBook):
            put_in(told, BOOK_THING)

    def test_untold_and_told_again(self):
        chance = random.Random(8)
        for things in some_things(20):
            told = put_all(things)
            for k in range(20):
                thing = chance.choice(things)
                told = taken_out(told, thing) if thing in told else put_in(told, thing)
            for thing in things:
                told = put_in(told, thing)
            self.assertEqual(told, naive_days.in_order(things))

    def test_ninety_nine(self):
        told = walks(99)
        rest = taken_out(told, told[50])
        self.assertEqual(len(rest), 98)
        self.assertEqual(len(put_in(rest, CLOSED)), 99)


class Unlike(unittest.TestCase):
    def test_odd_objects_are_no_things(self):
        for thing in (Odd(), Like(), Odd, type):
            for ask in (put_in, taken_out):
                with self.assertRaises(BadThing):
                    ask((WALK,), thing)

    def test_books_of_other_sections(self):
        told = put_in((BOOK_THING,), ("book", 6, ((WEST,), (), (), ())))
        self.assertEqual([book_of(told, day)[0][0][0] for day in (5, 6)], ["east", "west"])


if __name__ == "__main__":
    unittest.main()
