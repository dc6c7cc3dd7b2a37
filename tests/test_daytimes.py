"""DAYTIMES: by examples, at the bounds, and against a search of all ways to part LEGS."""

import random
import unittest

from pathbook.errors import BadLegs
from pathbook.legs import is_legs, measure, passed
from pathbook.lists import daytimes
from tests import naive_legs, naive_plans
from tests.sample_things import random_book, random_legs
from tests.samples import ANYTHING, NO_KEYS, letters

RIDE = ("ride",)
NORTH = ("north", ("a", "b", "c", "d", "e"), ((10, 1, 2), (20, 3, 4), (30, 5, 6), (40, 7, 8)))
EAST = ("east", ("e", "f", "a"), ((5, 0, 0), (6, 0, 0)))
SECTIONS = (NORTH, EAST)


def book_of(halts):
    return (SECTIONS, tuple(halts), (), ())


class Examples(unittest.TestCase):
    def test_within_a_leg(self):
        legs = (("north", 0, 4),)
        for halts, most, wanted in (
            ("", 100, [legs]), ("", 99, None), ("abcde", 100, [legs]), ("abcde", 99, [(("north", 0, 3),), (("north", 3, 4),)]),
            ("abcde", 60, [(("north", 0, 3),), (("north", 3, 4),)]), ("abcde", 59, [(("north", 0, 2),), (("north", 2, 3),), (("north", 3, 4),)]),
            ("abcde", 40, [(("north", 0, 2),), (("north", 2, 3),), (("north", 3, 4),)]), ("abcde", 39, None),
            ("abcde", 99999, [legs]), ("abcde", 1, None), ("c", 70, [(("north", 0, 2),), (("north", 2, 4),)]), ("c", 69, None),
            ("bd", 60, [(("north", 0, 3),), (("north", 3, 4),)]), ("bd", 50, [(("north", 0, 1),), (("north", 1, 3),), (("north", 3, 4),)]),
        ):
            self.assertEqual(daytimes(book_of(halts), legs, most), wanted)
            self.assertEqual(daytimes(most=most, legs=legs, book=book_of(halts)), wanted)

    def test_back(self):
        self.assertEqual(daytimes(book_of("bd"), (("north", 4, 0),), 60), [(("north", 4, 3),), (("north", 3, 0),)])
        self.assertEqual(daytimes(book_of("bd"), (("north", 4, 0),), 59), [(("north", 4, 3),), (("north", 3, 1),), (("north", 1, 0),)])
        self.assertEqual(daytimes(book_of("bd"), (("north", 4, 0),), 90), [(("north", 4, 1),), (("north", 1, 0),)])

    def test_between_legs(self):
        legs = (("north", 3, 4), ("east", 0, 2), ("north", 0, 1))
        self.assertEqual(daytimes(book_of("e"), legs, 40), [legs[:1], legs[1:]])
        self.assertEqual(daytimes(book_of("e"), legs, 60), [legs[:1], legs[1:]])
        self.assertEqual(daytimes(book_of("e"), legs, 61), [legs])
        self.assertEqual(daytimes(book_of("aef"), legs, 45), [(("north", 3, 4), ("east", 0, 1)), (("east", 1, 2), ("north", 0, 1))])
        self.assertIsNone(daytimes(book_of("bcdz"[:3]), legs, 60))

    def test_legs_stay_as_they_are(self):
        # Two LEGS that could be one stay two.
        legs = (("north", 0, 1), ("north", 1, 2), ("north", 2, 4))
        self.assertEqual(daytimes(book_of("abcde"), legs, 100), [legs])
        self.assertEqual(daytimes(book_of("abcde"), legs, 60), [legs[:2] + (("north", 2, 3),), (("north", 3, 4),)])
        back = (("north", 0, 1), ("north", 1, 0))
        self.assertEqual(daytimes(book_of("b"), back, 10), [back[:1], back[1:]])
        self.assertEqual(daytimes(book_of("b"), back, 20), [back])

    def test_rides(self):
        legs = (("north", 0, 1), RIDE, ("north", 2, 3), RIDE, ("east", 0, 1))
        self.assertEqual(daytimes(book_of(""), legs, 45), [legs])
        self.assertIsNone(daytimes(book_of(""), legs, 44))
        # Both sides of a RIDE have to be HALTS.
        self.assertIsNone(daytimes(book_of("b"), legs, 44))
        self.assertIsNone(daytimes(book_of("ce"), legs, 44))
        self.assertEqual(daytimes(book_of("bc"), legs, 44), [legs[:1], legs[2:]])
        self.assertEqual(daytimes(book_of("de"), legs, 44), [legs[:3], legs[4:]])
        self.assertEqual(daytimes(book_of("bcde"), legs, 44), [legs[:3], legs[4:]])
        self.assertEqual(daytimes(book_of("bcde"), legs, 39), [legs[:1], legs[2:]])
        self.assertEqual(daytimes(book_of("bcde"), legs, 30), [legs[:1], legs[2:3], legs[4:]])

    def test_the_first_one_greatest(self):
        legs = (("north", 0, 4), ("east", 0, 2))
        # In two either way; the first one goes as far as it can.
        self.assertEqual(daytimes(book_of("abcdef"), legs, 100), [legs[:1], legs[1:]])
        self.assertEqual(daytimes(book_of("abcdef"), legs, 105), [(("north", 0, 4), ("east", 0, 1)), (("east", 1, 2),)])
        self.assertEqual(
            daytimes(book_of("abcdef"), legs, 51), [(("north", 0, 2),), (("north", 2, 3),), (("north", 3, 4), ("east", 0, 2))],
        )
        self.assertEqual(
            daytimes(book_of("abcdef"), legs, 50),
            [(("north", 0, 2),), (("north", 2, 3),), (("north", 3, 4), ("east", 0, 1)), (("east", 1, 2),)],
        )

    def test_new_lists(self):
        found = daytimes(book_of("abcde"), (("north", 0, 4),), 60)
        self.assertIs(type(found), list)
        self.assertIs(type(found[0]), tuple)
        found.clear()
        self.assertEqual(len(daytimes(book_of("abcde"), (("north", 0, 4),), 60)), 2)


class Bounds(unittest.TestCase):
    long = ("long", letters(8), ((999, 0, 0),) * 7)

    def test_sixty_legs(self):
        legs = (("long", 0, 7), ("long", 7, 0)) * 30
        book = ((self.long,), letters(8), (), ())
        whole = 60 * 7 * 999
        self.assertEqual(daytimes(book, legs[:14], 99999), [legs[:14]])
        self.assertEqual(14 * 7 * 999, 97902)
        found = daytimes(book, legs, 99999)
        self.assertEqual(len(found), -(-420 // 100))
        self.assertEqual([self.length(book, one) for one in found], [99900] * 4 + [whole - 4 * 99900])
        self.assertEqual(len(daytimes(book, legs, 999)), 420)
        self.assertIsNone(daytimes(book, legs, 998))
        # One HALT alone.
        alone = ((self.long,), ("d",), (), ())
        self.assertIsNone(daytimes(alone, legs, 999 * 7))
        # d to h and back to d, 8 STRETCHES; d to a and back, 6; the first one and the last have 3.
        found = daytimes(alone, legs, 999 * 8)
        self.assertEqual({self.length(alone, one) // 999 for one in found[1:-1]}, {6, 8})
        self.assertEqual((found[0], found[-1]), ((("long", 0, 3),), (("long", 3, 0),)))
        self.assertEqual(len(found), 61)

    def length(self, book, legs):
        return sum(measure(book[0][0], leg)[0] for leg in legs if leg != RIDE)

    def test_a_ride_as_each_second_one(self):
        legs = (("long", 0, 1), RIDE) * 29 + (("long", 0, 1),)
        book = ((self.long,), ("a", "b"), (), ())
        self.assertEqual(daytimes(book, legs, 999), [(("long", 0, 1),)] * 30)
        self.assertEqual(daytimes(book, legs, 1998), [(("long", 0, 1), RIDE, ("long", 0, 1))] * 15)
        self.assertEqual(daytimes(((self.long,), ("a",), (), ()), legs, 30 * 999), [legs])
        self.assertIsNone(daytimes(((self.long,), ("a",), (), ()), legs, 30 * 999 - 1))

    def test_refused(self):
        book = book_of("abcde")
        for legs in (
            (("nowhere", 0, 1),), (("north", 0, 5),), (("north", 0, 1), ("north", 0, 1)), (("north", 0, 1), RIDE, ("south", 0, 1)),
            (("north", 0, 1), ("north", 1, 7)), (("north", 0, 1), ("east", 0, 1)), (("ride", 0, 1),),
        ):
            with self.assertRaises(BadLegs):
                daytimes(book, legs, 99999)
            with self.assertRaises(BadLegs):
                daytimes(book, legs, 1)

    def test_of_anything(self):
        for legs in ANYTHING + NO_KEYS + ([("north", 0, 1)], (RIDE,), (("north", 0, 1), RIDE)):
            with self.assertRaises(BadLegs):
                daytimes(book_of("abc"), legs, 5)


class ByChance(unittest.TestCase):
    def test_all_ways_to_part(self):
        chance = random.Random(4)
        seen = set()
        for k in range(1500):
            book = random_book(chance, chance.choice((0.5, 1)))
            legs = random_legs(chance, book, 4)
            most = chance.choice((1, 5, 9, 12, 20, 40, 99999))
            good = all(leg == RIDE or naive_legs.would_count(book, leg, ()) for leg in legs)
            if not good or not naive_legs.is_sound(book, legs, ()):
                with self.assertRaises(BadLegs):
                    daytimes(book, legs, most)
                continue
            found = daytimes(book, legs, most)
            self.assertEqual(found, naive_plans.daytimes(book, legs, most))
            seen.add(None if found is None else len(found))
            for one in found or ():
                self.assertIs(is_legs(one), True)
            if found is not None:
                self.assertEqual([step for one in found for step in passed(book, one)], passed(book, legs))
        self.assertTrue({None, 1, 2, 3, 4, 5} <= seen)


if __name__ == "__main__":
    unittest.main()
