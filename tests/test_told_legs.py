"""What is told of good LEGS, by themselves and by one BOOK, with and without closed SECTIONS."""

import copy
import random
import unittest

from pathbook.errors import TooMany
from pathbook.legs import (
    behind, counted, from_to, is_legs, measure, meets, passed, shortened, steps_of, sums_of, trails, turned,
)
from tests import naive_legs
from tests.sample_texts import EVERY_LEGS, FULL_BOOK, RIDE, WIDE_BOOK, legs_of
from tests.samples import BOOK, EAST, LOOP, NORTH, OLD, PLAIN, WEST, long_section

# north: a b c; old: c b a d; loop: b e a b f; east: z y; west: y x
ALL = ("north", "old", "loop", "east", "west")
NONE_CLOSED = (None, (), ("south",), ("south", "zzz"))

# c to a by old, a to c by north, by ride to z, and on to x.
ROUND = (("old", 0, 2), ("north", 0, 2), RIDE, ("east", 0, 1), ("west", 0, 1))
# north ends at c, loop begins at b.
BROKEN = (("north", 0, 2), ("loop", 0, 1))


def random_legs(chance, many):
    """LEGS of BOOK's SECTIONS and others, often joined."""
    legs = []
    while len(legs) < many:
        if legs and len(legs) < many - 1 and legs[-1] != RIDE and chance.random() < 0.2:
            legs.append(RIDE)
            continue
        leg = random_leg(chance)
        if legs and legs[-1] != RIDE and chance.random() < 0.6:
            ends = from_to(BOOK, legs[-1])
            tries = [random_leg(chance) for k in range(60)]
            fit = [one for one in tries if ends is None or from_to(BOOK, one) is None or from_to(BOOK, one)[0] == ends[1]]
            leg = fit[0] if fit else leg
        legs.append(leg)
    return tuple(legs)


def random_leg(chance):
    i, j = chance.sample(range(5), 2)
    return (chance.choice(ALL + ("south",)), i, j)


class OneLeg(unittest.TestCase):
    def test_steps_forth(self):
        self.assertEqual(steps_of(("north", 0, 1)), [(0, True)])
        self.assertEqual(steps_of(leg=("north", 2, 5)), [(2, True), (3, True), (4, True)])
        self.assertEqual(steps_of(("north", 0, 7)), [(k, True) for k in range(7)])
        self.assertEqual(steps_of(("ride", 6, 7)), [(6, True)])

    def test_steps_back(self):
        self.assertEqual(steps_of(("north", 1, 0)), [(0, False)])
        self.assertEqual(steps_of(leg=("north", 5, 2)), [(4, False), (3, False), (2, False)])
        self.assertEqual(steps_of(("north", 7, 0)), [(k, False) for k in (6, 5, 4, 3, 2, 1, 0)])
        self.assertEqual(steps_of(("ride", 7, 6)), [(6, False)])

    def test_steps_are_new_pairs(self):
        first = steps_of(("north", 0, 2))
        self.assertIs(type(first), list)
        self.assertIs(type(first[0]), tuple)
        self.assertIs(first[0][1], True)
        self.assertIs(steps_of(("north", 2, 0))[0][1], False)
        first.clear()
        self.assertEqual(steps_of(("north", 0, 2)), [(0, True), (1, True)])

    def test_every_leg(self):
        for i in range(8):
            for j in range(8):
                if i != j:
                    found = steps_of(("a", i, j))
                    self.assertEqual(sorted(k for k, forth in found), list(range(min(i, j), max(i, j))))
                    self.assertEqual({forth for k, forth in found}, {i < j})
                    self.assertEqual(found, [(k, not forth) for k, forth in steps_of(("a", j, i))[::-1]])

    def test_measure(self):
        self.assertEqual(measure(NORTH, ("north", 0, 1)), (12, 3, 4))
        self.assertEqual(measure(NORTH, ("north", 1, 0)), (12, 4, 3))
        self.assertEqual(measure(NORTH, ("north", 0, 2)), (17, 3, 6))
        self.assertEqual(measure(section=NORTH, leg=("north", 2, 0)), (17, 6, 3))
        self.assertEqual(measure(LOOP, ("loop", 1, 4)), (27, 15, 18))
        self.assertEqual(measure(LOOP, ("loop", 3, 1)), (17, 10, 8))
        self.assertEqual(measure(EAST, ("east", 1, 0)), (3, 0, 0))
        self.assertIs(type(measure(EAST, ("east", 1, 0))), tuple)

    def test_measure_of_the_greatest(self):
        section = ("s", tuple("abcdefgh"), ((999, 998, 997),) * 7)
        self.assertEqual(measure(section, ("s", 0, 7)), (6993, 6986, 6979))
        self.assertEqual(measure(section, ("s", 7, 0)), (6993, 6979, 6986))

    def test_measure_where_marks_lack(self):
        for many in range(2, 9):
            section = long_section("s", many)
            for i in range(8):
                for j in range(8):
                    if i != j:
                        far = abs(i - j)
                        wanted = (far, 2 * far, 3 * far) if i < j else (far, 3 * far, 2 * far)
                        self.assertEqual(measure(section, ("s", i, j)), wanted if max(i, j) < many else None)


class Alone(unittest.TestCase):
    def test_turned(self):
        self.assertEqual(turned((("north", 0, 3),)), (("north", 3, 0),))
        self.assertEqual(turned(legs=ROUND), (("west", 1, 0), ("east", 1, 0), RIDE, ("north", 2, 0), ("old", 2, 0)))
        self.assertEqual(turned((("ride", 0, 1), RIDE, ("a", 5, 6))), (("a", 6, 5), RIDE, ("ride", 1, 0)))

    def test_turned_twice(self):
        for legs in EVERY_LEGS:
            self.assertIs(is_legs(turned(legs)), True)
            self.assertEqual(turned(turned(legs)), legs)
            self.assertIs(type(turned(legs)), tuple)

    def short(self, legs, wanted):
        self.assertEqual(shortened(legs), wanted)
        self.assertEqual(naive_legs.all_shortened(legs), wanted)
        self.assertIs(type(shortened(legs)), tuple)

    def test_shortened(self):
        self.short((("a", 0, 1), ("a", 1, 2)), (("a", 0, 2),))
        self.short((("a", 2, 1), ("a", 1, 0)), (("a", 2, 0),))
        self.short((("a", 0, 1), ("a", 1, 2), ("a", 2, 5), ("a", 5, 7)), (("a", 0, 7),))
        self.short((("a", 7, 6), ("a", 6, 3), ("a", 3, 0)), (("a", 7, 0),))
        self.short((("b", 0, 1), ("a", 0, 1), ("a", 1, 2), ("b", 1, 2)), (("b", 0, 1), ("a", 0, 2), ("b", 1, 2)))
        self.assertEqual(shortened(legs=(("ride", 0, 1), ("ride", 1, 2))), (("ride", 0, 2),))

    def test_not_shortened(self):
        for legs in (
            (("a", 0, 1),), (("a", 0, 1), ("b", 1, 2)), (("a", 0, 1), ("a", 2, 3)), (("a", 0, 2), ("a", 2, 1)),
            (("a", 2, 0), ("a", 0, 1)), (("a", 0, 1), RIDE, ("a", 1, 2)), (("a", 0, 1), ("a", 0, 1)),
            (("a", 0, 1), ("a", 1, 0)), (("a", 1, 2), ("a", 0, 1)), (("ride", 0, 1), RIDE, ("ride", 1, 2)),
        ):
            self.short(legs, legs)

    def test_shortened_there_and_back(self):
        self.short(
            (("a", 0, 1), ("a", 1, 2), ("a", 2, 1), ("a", 1, 0), ("a", 0, 1)), (("a", 0, 2), ("a", 2, 0), ("a", 0, 1)),
        )
        legs = (("a", 0, 1), ("a", 1, 2), RIDE, ("a", 2, 3), ("a", 3, 4), ("b", 4, 3), ("b", 3, 2))
        self.short(legs, (("a", 0, 2), RIDE, ("a", 2, 4), ("b", 4, 2)))

    def test_shortened_of_sixty(self):
        legs = tuple(("a", k % 7, k % 7 + 1) for k in range(60))
        self.short(legs, (("a", 0, 7),) * 8 + (("a", 0, 4),))
        self.short(turned(legs), (("a", 4, 0),) + (("a", 7, 0),) * 8)

    def test_shortened_of_any(self):
        chance = random.Random(1)
        for many in list(range(1, 30)) * 8:
            marks = [chance.randrange(8)]
            while len(marks) <= many:
                marks.append(chance.choice([k for k in range(8) if k != marks[-1]]))
            legs = tuple((chance.choice("aab"), i, j) for i, j in zip(marks, marks[1:]))
            self.short(legs, naive_legs.all_shortened(legs))
            self.assertIs(is_legs(shortened(legs)), True)
            self.assertEqual(shortened(shortened(legs)), shortened(legs))


class ByABook(unittest.TestCase):
    def test_from_to(self):
        for closed in NONE_CLOSED:
            self.assertEqual(from_to(BOOK, ("north", 0, 2), closed), ("a", "c"))
            self.assertEqual(from_to(BOOK, ("north", 2, 0), closed), ("c", "a"))
            self.assertEqual(from_to(BOOK, ("loop", 0, 3), closed), ("b", "b"))
            self.assertEqual(from_to(BOOK, ("old", 3, 1), closed=closed), ("d", "b"))
            self.assertIsNone(from_to(BOOK, ("south", 0, 1), closed))
            self.assertIsNone(from_to(BOOK, ("north", 0, 3), closed))
            self.assertIsNone(from_to(BOOK, ("north", 3, 0), closed))
            self.assertIsNone(from_to(BOOK, ("a", 0, 1), closed))
        self.assertEqual(from_to(book=BOOK, leg=("west", 1, 0)), ("x", "y"))
        self.assertIs(type(from_to(BOOK, ("west", 1, 0))), tuple)

    def test_from_to_at_each_bound(self):
        for many in range(2, 9):
            book = ((long_section("s", many),), (), (), ())
            for i in range(8):
                for j in range(8):
                    if i != j:
                        wanted = ("abcdefgh"[i], "abcdefgh"[j]) if max(i, j) < many else None
                        self.assertEqual(from_to(book, ("s", i, j)), wanted)

    def test_from_to_of_closed_sections(self):
        for closed in (("north",), ("south", "north"), ALL, ("north", "north")):
            self.assertIsNone(from_to(BOOK, ("north", 0, 1), closed))
            self.assertIsNone(from_to(closed=closed, leg=("north", 2, 1), book=BOOK))
        self.assertEqual(from_to(BOOK, ("old", 0, 1), ("north",)), ("c", "b"))
        self.assertEqual(from_to(BOOK, ("north", 0, 1), ("a", "b", "nort", "northx")), ("a", "b"))

    def told(self, book, legs, closed, sound, legs_counted):
        """Whether LEGS are SOUND, which COUNT, and all that comes of it, by places and by names."""
        self.assertIs(meets(book, legs, closed), sound)
        self.assertIs(meets(book=book, legs=legs, closed=closed), sound)
        self.assertEqual(counted(book, legs, closed), legs_counted)
        self.assertEqual(counted(closed=closed, legs=legs, book=book), legs_counted)
        steps = naive_legs.all_steps(book, legs, closed)
        self.assertEqual(passed(book, legs, closed), [step[:3] for step in steps])
        self.assertEqual(passed(legs=legs, book=book, closed=closed), [step[:3] for step in steps])
        sums = tuple(sum(step[at] for step in steps) for at in (5, 6, 7))
        self.assertEqual(sums_of(book, legs, closed), sums)
        self.assertEqual(sums_of(closed=closed, book=book, legs=legs), sums)
        runs = naive_legs.all_trails(book, legs, closed)
        self.assertEqual(trails(book, legs, closed), runs)
        self.assertEqual(trails(legs=legs, closed=closed, book=book), runs)
        self.assertEqual(sum(len(run) - 1 for run in runs), len(steps))
        if not closed:
            for ask in (meets, counted, passed, sums_of, trails):
                self.assertEqual(ask(book, legs), ask(book, legs, closed))

    def test_all_count(self):
        for closed in NONE_CLOSED:
            self.told(BOOK, ROUND, closed, True, [leg for leg in ROUND if leg != RIDE])
        self.assertEqual(passed(BOOK, ROUND), [
            ("old", 0, True), ("old", 1, True), ("north", 0, True), ("north", 1, True), ("east", 0, True), ("west", 0, True),
        ])
        self.assertEqual(sums_of(BOOK, ROUND), (1 + 2 + 17 + 3 + 4, 0 + 1 + 3 + 0 + 9, 0 + 0 + 6 + 0 + 1))
        self.assertEqual(trails(BOOK, ROUND), [["c", "b", "a", "b", "c"], ["z", "y", "x"]])

    def test_turned_about(self):
        self.assertEqual(sums_of(BOOK, turned(ROUND)), (27, 7, 13))
        self.assertEqual(trails(BOOK, turned(ROUND)), [["x", "y", "z"], ["c", "b", "a", "b", "c"]])
        self.assertEqual(passed(BOOK, turned(ROUND))[:2], [("west", 0, False), ("east", 0, False)])

    def test_none_counts_of_what_is_broken(self):
        for closed in NONE_CLOSED:
            self.told(BOOK, BROKEN, closed, False, [])
        self.assertEqual(passed(BOOK, BROKEN), [])
        self.assertEqual(sums_of(BOOK, BROKEN), (0, 0, 0))
        self.assertEqual(trails(BOOK, BROKEN), [])

    def test_one_break_breaks_all(self):
        self.told(BOOK, ROUND + BROKEN, None, False, [])
        self.told(BOOK, ROUND + (RIDE,) + BROKEN, None, False, [])
        self.told(BOOK, BROKEN + (RIDE,) + ROUND, None, False, [])
        legs = (("north", 0, 1),) * 1 + (("north", 1, 0), ("north", 0, 1)) * 29 + (("north", 0, 1),)
        self.assertEqual(len(legs), 60)
        self.told(BOOK, legs, None, False, [])

    def test_a_closed_section_mends_and_breaks(self):
        self.told(BOOK, BROKEN, ("north",), True, [("loop", 0, 1)])
        self.told(BOOK, BROKEN, ("loop",), True, [("north", 0, 2)])
        self.told(BOOK, BROKEN, ("loop", "north"), True, [])
        self.told(BOOK, BROKEN, ("old",), False, [])
        self.told(BOOK, ROUND, ("north",), True, [("old", 0, 2), ("east", 0, 1), ("west", 0, 1)])
        self.told(BOOK, ROUND, ALL, True, [])

    def test_nothing_is_asked_over_a_ride(self):
        legs = (("north", 0, 2), RIDE, ("loop", 0, 1))
        self.told(BOOK, legs, None, True, [("north", 0, 2), ("loop", 0, 1)])
        self.assertEqual(trails(BOOK, legs), [["a", "b", "c"], ["b", "e"]])

    def test_a_ride_between_what_would_meet_ends_a_run(self):
        legs = (("north", 0, 1), RIDE, ("north", 1, 2))
        self.told(BOOK, legs, None, True, [("north", 0, 1), ("north", 1, 2)])
        self.assertEqual(trails(BOOK, legs), [["a", "b"], ["b", "c"]])

    def test_nothing_is_asked_beside_what_would_not_count(self):
        for other in (("south", 0, 1), ("north", 2, 3), ("north", 7, 0), ("ride", 0, 1)):
            legs = (("north", 0, 1), other, ("old", 3, 2), ("north", 0, 1))
            self.told(BOOK, legs, None, True, [("north", 0, 1), ("old", 3, 2), ("north", 0, 1)])
            self.assertEqual(trails(BOOK, legs), [["a", "b"], ["d", "a", "b"]])
            self.told(BOOK, (other,), None, True, [])
            self.told(BOOK, (other, other), None, True, [])
            self.assertEqual(trails(BOOK, (other,)), [])
            self.told(BOOK, (other, ("north", 0, 1), other), None, True, [("north", 0, 1)])

    def test_each_as_often_as_it_stands_there(self):
        legs = (("north", 0, 1), ("north", 1, 0), ("north", 0, 1), RIDE, ("north", 0, 1))
        self.told(BOOK, legs, None, True, [legs[0], legs[1], legs[2], legs[4]])
        self.assertEqual(sums_of(BOOK, legs), (48, 13, 15))
        self.assertEqual(trails(BOOK, legs), [["a", "b", "a", "b"], ["a", "b"]])

    def test_marks_of_one_name_are_one_place(self):
        legs = (("loop", 1, 3), ("loop", 0, 1), ("loop", 1, 0), ("loop", 3, 4))
        self.told(BOOK, legs, None, True, list(legs))
        self.assertEqual(trails(BOOK, legs), [["e", "a", "b", "e", "b", "f"]])

    def test_numbers_alike_are_no_place(self):
        self.told(BOOK, (("north", 0, 1), ("old", 0, 1)), None, False, [])
        self.told(BOOK, (("north", 0, 1), ("old", 1, 2)), None, True, [("north", 0, 1), ("old", 1, 2)])

    def test_a_closed_section_ends_a_run(self):
        legs = (("north", 0, 1), ("loop", 0, 3), ("old", 1, 0))
        self.assertEqual(trails(BOOK, legs), [["a", "b", "e", "a", "b", "c"]])
        self.assertEqual(trails(BOOK, legs, ("loop",)), [["a", "b"], ["b", "c"]])
        self.assertEqual(trails(BOOK, legs, ("north", "old")), [["b", "e", "a", "b"]])
        self.assertEqual(passed(BOOK, legs, ("north", "old")), [("loop", 0, True), ("loop", 1, True), ("loop", 2, True)])

    def test_a_section_called_ride(self):
        book = ((("ride", ("a", "b"), ((5, 1, 2),)),), (), (), ())
        legs = (("ride", 0, 1), RIDE, ("ride", 0, 1), ("ride", 1, 0))
        for closed in NONE_CLOSED:
            self.told(book, legs, closed, True, [leg for leg in legs if leg != RIDE])
        self.told(book, legs, ("ride",), True, [])

    def test_the_longest(self):
        legs = (("north", 0, 2), ("north", 2, 0)) * 30
        self.told(BOOK, legs, None, True, list(legs))
        self.assertEqual(sums_of(BOOK, legs), (17 * 60, 9 * 30, 9 * 30))
        self.assertEqual(len(trails(BOOK, legs)[0]), 121)
        legs = legs_of("lr" * 29 + "ll")
        for book in (FULL_BOOK, WIDE_BOOK, PLAIN):
            naive = naive_legs.all_counted(book, legs, None)
            self.told(book, legs, None, naive_legs.is_sound(book, legs, None), naive)

    def test_of_any(self):
        chance = random.Random(2)
        sound = 0
        for many in list(range(1, 13)) * 60:
            legs = random_legs(chance, many)
            self.assertIs(is_legs(legs), True)
            closed = chance.choice((None, (), ("north",), ("loop", "old"), ("south", "east"), ALL))
            naive = naive_legs.all_counted(BOOK, legs, closed)
            self.told(BOOK, legs, closed, naive_legs.is_sound(BOOK, legs, closed), naive)
            sound += meets(BOOK, legs)
        self.assertGreater(sound, 200)
        self.assertLess(sound, 650)

    def test_shortened_passes_the_same(self):
        chance = random.Random(3)
        for many in list(range(1, 13)) * 40:
            legs = random_legs(chance, many)
            if len(counted(BOOK, legs)) == len([leg for leg in legs if leg != RIDE]):
                self.assertEqual(passed(BOOK, shortened(legs)), passed(BOOK, legs))
                self.assertEqual(trails(BOOK, shortened(legs)), trails(BOOK, legs))

    def test_what_is_told_is_the_askers_own(self):
        for ask in (counted, passed, trails):
            for legs in (ROUND, BROKEN):
                first = ask(BOOK, legs)
                before = copy.deepcopy(first)
                self.assertIs(type(first), list)
                for one in first:
                    if isinstance(one, list):
                        one.append("x")
                first.append("x")
                self.assertEqual(ask(BOOK, legs), before)
        self.assertIs(type(trails(BOOK, ROUND)[0]), list)
        self.assertIs(type(passed(BOOK, ROUND)[0]), tuple)
        self.assertIs(type(sums_of(BOOK, ROUND)), tuple)

    def test_nothing_is_changed(self):
        book, legs = copy.deepcopy(BOOK), copy.deepcopy(ROUND)
        for ask in (meets, counted, passed, sums_of, trails):
            ask(book, legs, ("north",))
        behind(book, legs, legs)
        self.assertEqual((book, legs), (BOOK, ROUND))


class Behind(unittest.TestCase):
    def test_where_they_meet(self):
        first, second = (("north", 0, 2),), (("old", 0, 1), ("old", 1, 2))
        for closed in NONE_CLOSED:
            self.assertEqual(behind(BOOK, first, second, closed), first + second)
        self.assertEqual(behind(book=BOOK, first=first, second=second), first + second)
        self.assertIs(type(behind(BOOK, first, second)), tuple)

    def test_where_they_do_not(self):
        first, second = (("north", 0, 2),), (("loop", 0, 1),)
        self.assertEqual(behind(BOOK, first, second), first + (RIDE,) + second)
        self.assertEqual(behind(BOOK, second, first), second + (RIDE,) + first)

    def test_where_one_would_not_count(self):
        first, second = (("north", 0, 2),), (("old", 0, 1),)
        for closed in (("north",), ("old",), ("old", "north")):
            self.assertEqual(behind(BOOK, first, second, closed), first + (RIDE,) + second)
            self.assertEqual(behind(closed=closed, second=second, first=first, book=BOOK), first + (RIDE,) + second)
        for other in (("south", 0, 1), ("north", 2, 3), ("north", 3, 2)):
            self.assertEqual(behind(BOOK, first, (other,)), first + (RIDE, other))
            self.assertEqual(behind(BOOK, (other,), second), (other, RIDE) + second)
            self.assertEqual(behind(BOOK, (other,), (other,)), (other, RIDE, other))

    def test_the_two_legs_between_are_looked_at_alone(self):
        # Both aren't SOUND as they are, and the LEGS of the far ends don't matter.
        first, second = BROKEN[::-1], (("old", 0, 1), ("east", 0, 1))
        self.assertEqual(behind(BOOK, first, second), first + second)
        self.assertEqual(behind(BOOK, first, second, ("loop", "east")), first + second)
        self.assertEqual(behind(BOOK, first, second, ("old",)), first + (RIDE,) + second)

    def test_behind_itself(self):
        there_and_back = (("north", 0, 1), ("north", 1, 0))
        self.assertEqual(behind(BOOK, there_and_back, there_and_back), there_and_back * 2)
        self.assertEqual(behind(BOOK, ROUND, ROUND), ROUND + (RIDE,) + ROUND)

    def test_how_many(self):
        pair = (("north", 0, 1), ("north", 1, 0))
        for first, second in ((1, 29), (15, 15), (29, 1)):
            self.assertEqual(behind(BOOK, pair * first, pair * second), pair * 30)
        for first, second in ((1, 30), (30, 1), (15, 16), (30, 30)):
            with self.assertRaises(TooMany) as caught:
                behind(BOOK, pair * first, pair * second)
            self.assertEqual(caught.exception.most, 60)

    def test_how_many_with_the_ride(self):
        pair = (("north", 0, 1), ("north", 1, 0))
        odd = pair * 14 + pair[:1]
        self.assertEqual(behind(BOOK, odd, pair * 15), odd + (RIDE,) + pair * 15)
        self.assertEqual(len(behind(BOOK, odd, pair * 15)), 60)
        with self.assertRaises(TooMany) as caught:
            behind(BOOK, pair * 15, pair * 15, ("north",))
        self.assertEqual(caught.exception.most, 60)
        with self.assertRaises(TooMany):
            behind(BOOK, pair * 30, (("east", 0, 1),))
        self.assertEqual(len(behind(BOOK, pair * 29, (("east", 0, 1),))), 60)

    def test_rides_count(self):
        first = (("north", 0, 1), RIDE) * 29 + (("north", 0, 1),)
        self.assertEqual(len(behind(BOOK, first, (("north", 1, 2),))), 60)
        with self.assertRaises(TooMany):
            behind(BOOK, first, (("north", 0, 1),))

    def test_what_comes_of_it_is_legs(self):
        chance = random.Random(4)
        for many in list(range(1, 30)) * 4:
            first, second = random_legs(chance, many), random_legs(chance, 30 - many)
            found = behind(BOOK, first, second)
            self.assertIs(is_legs(found), True)
            self.assertEqual([leg for leg in found if leg != RIDE], [leg for leg in first + second if leg != RIDE])


if __name__ == "__main__":
    unittest.main()
