"""Walks: what is refused, their fields, what they tell, and how they are put in order."""

import copy
import itertools
import unittest

from pathbook.errors import BadDay, BadLegs, BadName
from pathbook.legs import Walk, in_order, turned
from pathbook.reading import thing_in
from pathbook.showing import thing_text
from tests.sample_texts import EVERY_LEGS, RIDE, SHORT_THINGS
from tests.samples import ANYTHING, NO_KEYS, Like

STRANGE = ANYTHING + NO_KEYS
LEGS = (("north", 0, 3), ("east", 5, 2), RIDE, ("north", 2, 0))


def fields(walk):
    return (walk.day, walk.walker, walk.legs)


class Made(unittest.TestCase):
    def test_fields(self):
        for day in (0, 1, 9999):
            for walker in ("a", "ride", "abcdefgh"):
                self.assertEqual(fields(Walk(day, walker, LEGS)), (day, walker, LEGS))
                self.assertEqual(fields(Walk(legs=LEGS, walker=walker, day=day)), (day, walker, LEGS))
        for legs in EVERY_LEGS:
            self.assertEqual(Walk(5, "ann", legs).legs, legs)

    def test_bad_day(self):
        for day in STRANGE + (-1, 10000, "5", (5,), 10 ** 5000):
            with self.assertRaises(BadDay):
                Walk(day, "ann", LEGS)

    def test_bad_name(self):
        for walker in STRANGE + ("Ann", "ann ", 5, ("ann",)):
            with self.assertRaises(BadName):
                Walk(5, walker, LEGS)

    def test_bad_legs(self):
        for legs in STRANGE + (
            list(LEGS), LEGS + (RIDE,), (RIDE,) + LEGS, (("north", 1, 1),), (("north", 0, 8),), (("north", 0, 1),) * 61,
            ("north", 0, 1), "north 0 1", (("north", True, 0),), (LEGS[0], RIDE, RIDE, LEGS[0]),
        ):
            with self.assertRaises(BadLegs):
                Walk(5, "ann", legs)

    def test_the_first_refusal_is_told(self):
        with self.assertRaises(BadDay):
            Walk(-1, "Ann", ())
        with self.assertRaises(BadDay):
            Walk(None, None, LEGS)
        with self.assertRaises(BadDay):
            Walk(walker="Ann", legs=None, day=10000)
        with self.assertRaises(BadName):
            Walk(5, "", ())
        with self.assertRaises(BadName):
            Walk(legs=[], walker=b"ann", day=0)

    def test_what_is_handed_in_is_not_changed(self):
        legs = copy.deepcopy(LEGS)
        walk = Walk(5, "ann", legs)
        walk.about()
        walk.again(6)
        self.assertEqual(legs, LEGS)
        bad = [["north", 0, 1]]
        with self.assertRaises(BadLegs):
            Walk(5, "ann", bad)
        self.assertEqual(bad, [["north", 0, 1]])


class Told(unittest.TestCase):
    def setUp(self):
        self.walk = Walk(12, "ann", LEGS)

    def test_thing(self):
        self.assertEqual(self.walk.thing(), ("walk", 12, "ann", LEGS))
        self.assertIs(type(self.walk.thing()), tuple)
        self.assertEqual(self.walk.thing(), self.walk.thing())

    def test_about(self):
        about = self.walk.about()
        self.assertIs(type(about), Walk)
        self.assertEqual(fields(about), (12, "ann", (("north", 0, 2), RIDE, ("east", 2, 5), ("north", 3, 0))))
        self.assertEqual(fields(self.walk), (12, "ann", LEGS))
        self.assertEqual(fields(about.about()), (12, "ann", LEGS))
        for legs in EVERY_LEGS:
            self.assertEqual(Walk(0, "a", legs).about().legs, turned(legs))

    def test_again(self):
        for found, wanted in (
            (self.walk.again(), (12, "ann")), (self.walk.again(0), (0, "ann")), (self.walk.again(9999), (9999, "ann")),
            (self.walk.again(day=13), (13, "ann")), (self.walk.again(walker="ben"), (12, "ben")),
            (self.walk.again(0, "ben"), (0, "ben")), (self.walk.again(None, "ben"), (12, "ben")),
            (self.walk.again(13, None), (13, "ann")), (self.walk.again(walker="a", day=1), (1, "a")),
            (self.walk.again(None, None), (12, "ann")),
        ):
            self.assertIs(type(found), Walk)
            self.assertEqual(fields(found), wanted + (LEGS,))
            self.assertIsNot(found, self.walk)
        self.assertEqual(fields(self.walk), (12, "ann", LEGS))

    def test_again_refused(self):
        for day in STRANGE + (10000, "5"):
            if day is not None:
                with self.assertRaises(BadDay):
                    self.walk.again(day)
                with self.assertRaises(BadDay):
                    self.walk.again(day=day, walker="ben")
                with self.assertRaises(BadDay):
                    self.walk.again(day, "Ben")
        for walker in STRANGE + ("Ben", 5):
            if walker is not None:
                with self.assertRaises(BadName):
                    self.walk.again(walker=walker)
                with self.assertRaises(BadName):
                    self.walk.again(13, walker)
        self.assertEqual(fields(self.walk), (12, "ann", LEGS))

    def test_len(self):
        self.assertEqual(len(self.walk), 3)
        self.assertEqual(len(Walk(0, "a", (("ride", 0, 1),))), 1)
        self.assertEqual(len(Walk(0, "a", (("ride", 0, 1), RIDE, ("ride", 0, 1)))), 2)
        self.assertEqual(len(Walk(0, "a", (("a", 0, 1),) * 60)), 60)
        self.assertEqual(len(Walk(0, "a", (("a", 0, 1), RIDE) * 29 + (("a", 0, 1), ("a", 0, 1)))), 31)

    def test_str(self):
        self.assertEqual(str(self.walk), "walk 12 ann north 0 3 east 5 2 / north 2 0")
        for thing, text in SHORT_THINGS:
            if thing[0] == "walk":
                self.assertEqual(str(Walk(*thing[1:])), text)
        for legs in EVERY_LEGS:
            walk = Walk(0, "walk", legs)
            self.assertEqual(str(walk), thing_text(walk.thing()))
            self.assertEqual(thing_in(str(walk)), walk.thing())

    def test_equal(self):
        self.assertIs(self.walk == Walk(12, "ann", tuple(list(LEGS))), True)
        self.assertIs(self.walk != Walk(12, "ann", LEGS), False)
        self.assertIs(self.walk == self.walk, True)
        self.assertIs(self.walk == self.walk.again(), True)
        self.assertIs(self.walk == self.walk.about().about(), True)

    def test_not_equal(self):
        for other in (
            Walk(13, "ann", LEGS), Walk(12, "anne", LEGS), Walk(12, "ann", LEGS[:1]), self.walk.about(), self.walk.again(0),
            self.walk.again(walker="ben"), Walk(12, "ann", LEGS[:2] + LEGS[3:]),
        ):
            self.assertIs(self.walk == other, False)
            self.assertIs(other == self.walk, False)
            self.assertIs(self.walk != other, True)

    def test_not_equal_to_anything_else(self):
        class Alike:
            day, walker, legs = 12, "ann", LEGS

            def thing(self):
                return ("walk", 12, "ann", LEGS)

        for other in STRANGE + (self.walk.thing(), fields(self.walk), str(self.walk), Walk, Alike(), Like(), [self.walk]):
            self.assertIs(self.walk == other, False)
            self.assertIs(self.walk != other, True)


class InOrder(unittest.TestCase):
    # Rising: by DAY, then WALKER, then LEGS.
    things = (
        (0, "b", (("b", 0, 1),)),
        (9, "a", (("a", 0, 1),)),
        (9, "a", (("a", 0, 1), ("a", 1, 0))),
        (9, "a", (("a", 0, 1), RIDE, ("a", 0, 1))),
        (9, "a", (("a", 0, 1), ("ride", 0, 1))),
        (9, "a", (("a", 0, 2),)),
        (9, "a", (("a", 1, 0),)),
        (9, "a", (("aa", 0, 1),)),
        (9, "a", (("b", 0, 1),)),
        (9, "aa", (("a", 0, 1),)),
        (9, "b", (("a", 0, 1),)),
        (10, "a", (("a", 0, 1),)),
        (9999, "a", (("a", 0, 1),)),
    )

    def test_rising(self):
        walks = [Walk(*thing) for thing in self.things]
        for step in (1, 2, 3, 4, 5, 6, 7, 8, 9, 10, 11, 12):
            mixed = [walks[k * step % 13] for k in range(13)]
            found = in_order(mixed)
            self.assertEqual([fields(walk) for walk in found], list(self.things))
            for one, other in zip(found, walks):
                self.assertIs(one, other)
        self.assertEqual([walk.thing() for walk in in_order(walks=walks[::-1])], sorted(walk.thing() for walk in walks))

    def test_every_order_of_some(self):
        walks = [Walk(*thing) for thing in self.things[1:6]]
        for mixed in itertools.permutations(walks):
            self.assertEqual(in_order(list(mixed)), walks)

    def test_of_equal_ones_the_first_alone(self):
        first, other, twin = Walk(5, "b", LEGS), Walk(5, "a", LEGS), Walk(5, "b", LEGS)
        for walks, wanted in (
            ([first, other, twin], [other, first]), ([twin, other, first], [other, twin]), ([first, twin], [first]),
            ([twin, first, first, twin], [twin]), ([first, first], [first]),
        ):
            found = in_order(walks)
            self.assertEqual(len(found), len(wanted))
            for one, two in zip(found, wanted):
                self.assertIs(one, two)

    def test_none_and_one(self):
        self.assertEqual(in_order([]), [])
        walk = Walk(5, "a", LEGS)
        self.assertIs(in_order([walk])[0], walk)

    def test_a_new_list(self):
        walks = [Walk(*thing) for thing in self.things[::-1]]
        before = list(walks)
        found = in_order(walks)
        self.assertIs(type(found), list)
        self.assertIsNot(found, walks)
        found.clear()
        self.assertEqual(len(walks), 13)
        for one, other in zip(walks, before):
            self.assertIs(one, other)
        self.assertEqual(len(in_order(walks)), 13)
        ordered = in_order(walks[::-1])
        self.assertIsNot(in_order(ordered), ordered)


if __name__ == "__main__":
    unittest.main()
