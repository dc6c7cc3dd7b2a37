"""Whether anything is LEGS."""

import copy
import unittest

from pathbook.errors import BadLegs, PathError
from pathbook.legs import is_legs, need_legs
from tests.naive_legs import are_legs
from tests.sample_texts import EVERY_LEGS, RIDE, legs_of
from tests.samples import ANYTHING, NO_KEYS, Like, put

STRANGE = ANYTHING + NO_KEYS
LEG = ("north", 0, 1)
LEGS = (LEG, RIDE, ("old", 3, 1), ("ride", 0, 7))


class Legs(unittest.TestCase):
    def good(self, thing):
        self.assertIs(is_legs(thing), True, thing)
        self.assertIsNone(need_legs(thing))

    def bad(self, thing):
        self.assertIs(is_legs(thing), False)
        with self.assertRaises(BadLegs) as caught:
            need_legs(thing)
        self.assertIsInstance(caught.exception, PathError)

    def test_good_ones(self):
        for legs in EVERY_LEGS + (LEGS, (LEG,), (LEG, LEG)):
            self.good(legs)

    def test_by_name(self):
        self.assertIs(is_legs(thing=LEGS), True)
        self.assertIsNone(need_legs(thing=LEGS))
        self.assertIs(is_legs(thing=None), False)
        with self.assertRaises(BadLegs):
            need_legs(thing=None)

    def test_how_many(self):
        self.bad(())
        for many in range(1, 61):
            self.good((LEG,) * many)
        for many in (61, 62, 99, 500):
            self.bad((LEG,) * many)

    def test_how_many_with_rides(self):
        for kinds in ("lr" * 29 + "ll", "lr" * 29 + "l", "l" * 58 + "rl", "lr" + "l" * 58):
            self.good(legs_of(kinds))
        for kinds in ("lr" * 30 + "l", "l" * 59 + "rl", "lr" + "l" * 59, "lr" * 29 + "lll"):
            self.bad(legs_of(kinds))

    def test_where_rides_stand(self):
        for many in range(1, 9):
            for code in range(2 ** many):
                kinds = "".join("lr"[code >> k & 1] for k in range(many))
                legs = legs_of(kinds)
                if kinds[0] == "l" and kinds[-1] == "l" and "rr" not in kinds:
                    self.good(legs)
                else:
                    self.bad(legs)
                self.assertIs(is_legs(legs), are_legs(legs))

    def test_rides_at_the_far_end(self):
        self.bad(legs_of("l" * 59 + "r"))
        self.bad(legs_of("r" + "l" * 59))
        self.bad(legs_of("l" * 29 + "rr" + "l" * 29))
        self.bad(legs_of("l" * 57 + "rrl"))

    def test_numbers(self):
        for i in range(-2, 11):
            for j in range(-2, 11):
                if 0 <= i <= 7 and 0 <= j <= 7 and i != j:
                    self.good((("north", i, j),))
                else:
                    self.bad((("north", i, j),))

    def test_true_and_false_are_no_numbers(self):
        for one in (True, False):
            for number in range(8):
                self.bad((("north", one, number),))
                self.bad((("north", number, one),))
        self.bad((("north", False, True),))

    def test_names(self):
        for name in ("a", "z", "abcdefgh", "ride", "walk", "zzzzzzzz"):
            self.good(((name, 0, 1),))
        for name in STRANGE + ("abcdefghi", "A", "north ", "1", "/"):
            self.bad(((name, 0, 1),))

    def test_what_a_ride_is(self):
        for ride in (("ride",),):
            self.good((LEG, ride, LEG))
        for ride in (
            "ride", ["ride"], ("Ride",), ("ride ",), ("",), (), ("ride", "ride"), ("ride", 0), (Like(),), (b"ride",),
            ("north",), (None,), (True,), (["ride"],), ("rid",), ("rider",), Like(), {"ride"}, {"ride": 1}, "/", ("/",),
        ):
            self.bad((LEG, ride, LEG))

    def test_fewer_or_more_parts(self):
        for leg in ((), ("north",), ("north", 0), ("north", 0, 1, 2), ("north", 0, 1, 0, 1), (0, 1), ("north", (0, 1))):
            self.bad((leg,))
            self.bad((LEG, leg, LEG))

    def test_other_kinds_at_every_depth(self):
        for thing in STRANGE:
            self.bad(thing)
            for at in range(4):
                self.bad(put(LEGS, at, thing))
            for at in (0, 2, 3):
                for part in range(3):
                    self.bad(put(LEGS, at, put(LEGS[at], part, thing)))
            self.bad(put(LEGS, 1, (thing,)))

    def test_no_tuples(self):
        for thing in (
            list(LEGS), [LEG], LEG, RIDE, (RIDE,), ([LEG],), (list(LEG),), "north 0 1", ("north 0 1",), {LEG: 1}, {LEG},
            iter(LEGS), (leg for leg in LEGS), ((LEG,),), range(3), b"abc", ((("north",), 0, 1),), Like(), (Like(),),
            (Like(), Like(), Like()), (("north", Like(), 1),), ((Like(), 0, 1),),
        ):
            self.bad(thing)

    def test_numbers_of_other_kinds(self):
        for number in ("0", b"0", (0,), [0], "", None, 10 ** 5000, -10 ** 5000):
            self.bad((("north", number, 1),))
            self.bad((("north", 1, number),))

    def test_what_is_handed_in_is_not_changed(self):
        for thing in (LEGS, list(LEGS), [["north", 0, 1]], {"north": [0]}, put(LEGS, 2, ["old", 3, 1])):
            before = copy.deepcopy(thing)
            is_legs(thing)
            self.assertEqual(is_legs(thing), is_legs(before))
            self.assertEqual(thing, before)


if __name__ == "__main__":
    unittest.main()
