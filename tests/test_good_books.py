"""Whether anything is a STRETCH, a SECTION, a BOOK, and the PLACE of what isn't so."""

import copy
import unittest

from pathbook.books import is_section, is_stretch, need_book, need_section
from pathbook.errors import BadBook, BadSection
from tests.samples import (
    ANYTHING, BOOK, EAST, LOOP, NO_KEYS, NORTH, OLD, PLAIN, WEST, Like, letters, long_section, put,
)

STRANGE = ANYTHING + NO_KEYS


def section_of_marks(*marks):
    return ("north", marks, ((1, 0, 0),) * (len(marks) - 1))


class Stretches(unittest.TestCase):
    def test_at_each_bound(self):
        for at, least in ((0, 1), (1, 0), (2, 0)):
            for number in (least, least + 1, 500, 998, 999):
                self.assertIs(is_stretch(put((5, 6, 7), at, number)), True)
            for number in (least - 1, -5, 1000, 10 ** 5000):
                self.assertIs(is_stretch(put((5, 6, 7), at, number)), False)
        self.assertIs(is_stretch((1, 0, 0)), True)
        self.assertIs(is_stretch(thing=(999, 999, 999)), True)

    def test_other_kinds_in_the_place_of_numbers(self):
        for at in range(3):
            for thing in STRANGE + ("5", b"5", (5,), [5]):
                self.assertIs(is_stretch(put((5, 6, 7), at, thing)), False)

    def test_fewer_or_more_parts(self):
        for thing in ((), (5,), (5, 6), (5, 6, 7, 8), (5, 6, 7, 8, 9)):
            self.assertIs(is_stretch(thing), False)

    def test_no_tuple(self):
        for thing in STRANGE + ([5, 6, 7], {5: 1, 6: 1, 7: 1}, {5, 6, 7}, "567", b"567", range(5, 8), iter((5, 6, 7))):
            self.assertIs(is_stretch(thing), False)


class Sections(unittest.TestCase):
    def good(self, thing):
        self.assertIs(is_section(thing), True, thing)
        self.assertIsNone(need_section(thing))

    def bad(self, thing):
        self.assertIs(is_section(thing), False)
        with self.assertRaises(BadSection):
            need_section(thing)

    def test_good_ones(self):
        for section in (NORTH, OLD, LOOP, EAST, WEST):
            self.good(section)
        self.assertIs(is_section(thing=NORTH), True)
        self.assertIsNone(need_section(thing=NORTH))

    def test_how_many_marks(self):
        for many in range(2, 9):
            self.good(long_section("north", many))
        for many in (9, 10, 20):
            self.bad(long_section("north", many))
        self.bad(("north", ("a",), ()))
        self.bad(("north", ("a",), ((1, 0, 0),)))
        self.bad(("north", (), ()))

    def test_one_stretch_fewer_than_marks(self):
        for many in range(2, 9):
            for other in range(0, 10):
                if other != many - 1:
                    self.bad(("north", letters(many), ((1, 0, 0),) * other))

    def test_neighbours_are_unlike(self):
        self.bad(section_of_marks("a", "a"))
        self.bad(section_of_marks("a", "a", "b"))
        self.bad(section_of_marks("a", "b", "b"))
        self.bad(section_of_marks("a", "b", "c", "c", "d"))

    def test_a_mark_may_come_again(self):
        self.good(section_of_marks("a", "b", "c", "a"))
        self.good(section_of_marks("a", "b", "c", "a", "d"))
        self.good(section_of_marks("d", "a", "b", "c", "a", "e", "f", "a"))
        self.good(section_of_marks("a", "b", "c", "d", "b", "e"))
        self.good(section_of_marks("a", "b", "c", "a", "d", "b", "e", "a"))

    def test_no_way_there_and_back(self):
        self.bad(section_of_marks("a", "b", "a"))
        self.bad(section_of_marks("b", "a", "b"))
        self.bad(section_of_marks("a", "b", "c", "b"))
        self.bad(section_of_marks("c", "a", "b", "a"))

    def test_no_way_twice(self):
        self.bad(section_of_marks("a", "b", "c", "a", "b"))
        self.bad(section_of_marks("b", "a", "c", "b", "a"))
        self.bad(section_of_marks("a", "b", "c", "d", "b", "a"))
        self.bad(section_of_marks("a", "b", "c", "d", "e", "f", "b", "a"))

    def test_a_section_called_like_a_mark(self):
        self.good(("a", ("a", "b"), ((1, 0, 0),)))

    def test_names_and_marks_at_their_bounds(self):
        self.good(("abcdefgh", ("abcdefgh", "abcdefgg"), ((1, 0, 0),)))
        self.bad(("abcdefghi", ("a", "b"), ((1, 0, 0),)))
        self.bad(("north", ("a", "abcdefghi"), ((1, 0, 0),)))
        self.bad(("north", ("", "b"), ((1, 0, 0),)))
        self.bad(("", ("a", "b"), ((1, 0, 0),)))

    def test_each_number_of_stretches(self):
        for k in range(2):
            for at, least in ((0, 1), (1, 0), (2, 0)):
                for number in (least, 999):
                    self.good(put(NORTH, 2, put(NORTH[2], k, put(NORTH[2][k], at, number))))
                for number in (least - 1, 1000, True, False):
                    self.bad(put(NORTH, 2, put(NORTH[2], k, put(NORTH[2][k], at, number))))

    def test_other_kinds_at_every_depth(self):
        for thing in STRANGE:
            self.bad(thing)
            for at in range(3):
                self.bad(put(NORTH, at, thing))
            for at in range(3):
                self.bad(put(NORTH, 1, put(NORTH[1], at, thing)))
            for k in range(2):
                self.bad(put(NORTH, 2, put(NORTH[2], k, thing)))
                for at in range(3):
                    self.bad(put(NORTH, 2, put(NORTH[2], k, put(NORTH[2][k], at, thing))))

    def test_lists_in_the_place_of_tuples(self):
        self.bad(list(NORTH))
        self.bad(put(NORTH, 1, list(NORTH[1])))
        self.bad(put(NORTH, 2, list(NORTH[2])))
        self.bad(put(NORTH, 2, put(NORTH[2], 1, list(NORTH[2][1]))))
        self.bad(put(NORTH, 1, "abc"))
        self.bad(put(NORTH, 1, {"a": 1, "b": 1, "c": 1}))

    def test_fewer_or_more_parts(self):
        self.bad(NORTH[:1])
        self.bad(NORTH[:2])
        self.bad(NORTH + ((),))
        self.bad(NORTH + NORTH)
        self.bad(put(NORTH, 2, ((12, 3), (5, 0, 2))))
        self.bad(put(NORTH, 2, ((12, 3, 4, 5), (5, 0, 2))))


class Asked(unittest.TestCase):
    def good(self, book):
        self.assertIsNone(need_book(book))

    def wrong(self, thing, place):
        with self.assertRaises(BadBook) as caught:
            need_book(thing)
        self.assertEqual(caught.exception.place, place)
        self.assertIs(type(caught.exception.place), tuple)


class Places(Asked):
    def test_good_ones(self):
        for book in (BOOK, PLAIN, ((NORTH,), ("a",), (), ()), ((NORTH, OLD), (), (("north", "old"),), ())):
            self.good(book)
        self.assertIsNone(need_book(thing=BOOK))

    def test_by_name(self):
        with self.assertRaises(BadBook) as caught:
            need_book(thing=None)
        self.assertEqual(caught.exception.place, ())

    def test_no_tuple_of_four(self):
        for thing in STRANGE + (list(BOOK), BOOK[:3], BOOK + ((),), BOOK + BOOK, "abcd", b"abcd", {1: 1, 2: 2, 3: 3, 4: 4}):
            self.wrong(thing, ())

    def test_each_of_the_four_is_a_tuple(self):
        for four in range(4):
            for thing in STRANGE:
                if not isinstance(thing, tuple):
                    self.wrong(put(BOOK, four, thing), (four,))
            self.wrong(put(BOOK, four, list(BOOK[four])), (four,))
            self.wrong(put(PLAIN, four, list(PLAIN[four])), (four,))

    def test_the_first_of_the_four_is_told(self):
        for four in range(4):
            thing = PLAIN[:four] + (None,) * (4 - four)
            self.wrong(thing, (four,))
        self.wrong(((NORTH, None), None, None, None), (0, 1))
        self.wrong(((NORTH,), ("a", "q"), None, None), (1, 1))
        self.wrong(((NORTH, OLD), (), (("north", "north"),), None), (2, 0))
        self.wrong((None, ("A",), (None,), (None,)), (0,))
        self.wrong(((NORTH,), ("A",), (None,), (None,)), (1, 0))
        self.wrong(((NORTH,), (), (None,), (None,)), (2, 0))
        self.wrong(((NORTH,), (), (), (None,)), (3, 0))
        self.wrong(((NORTH,), (), (), (("a", "days", 1), None, None)), (3, 1))

    def test_too_many_goes_ahead_of_what_stands_in_it(self):
        self.wrong(((None,) * 9, (), (), ()), (0,))
        self.wrong(((NORTH,), (None,) * 21, (), ()), (1,))
        self.wrong(((NORTH,), (), (None,) * 5, ()), (2,))
        self.wrong(((NORTH,), (), (), (None,) * 7), (3,))
        self.wrong(((None,) * 8, (), (), ()), (0, 0))
        self.wrong(((NORTH,), (None,) * 20, (), ()), (1, 0))
        self.wrong(((NORTH,), (), (None,) * 4, ()), (2, 0))
        self.wrong(((NORTH,), (), (), (None,) * 6), (3, 0))

    def test_what_is_handed_in_is_not_changed(self):
        for thing in (BOOK, list(BOOK), put(BOOK, 1, ["a"]), put(BOOK, 2, (["north", "old"],))):
            before = copy.deepcopy(thing)
            try:
                need_book(thing)
            except BadBook:
                pass
            self.assertEqual(thing, before)


class SectionPlaces(Asked):
    def sections(self, many):
        return tuple(long_section(name, 2) for name in letters(many))

    def test_how_many(self):
        self.wrong(((), (), (), ()), (0,))
        for many in range(1, 9):
            self.good((self.sections(many), (), (), ()))
        for many in (9, 10, 20):
            self.wrong((self.sections(many), (), (), ()), (0,))

    def test_none_that_is_no_section(self):
        for at in range(8):
            for thing in STRANGE + (list(NORTH), put(NORTH, 0, "NORTH"), section_of_marks("a", "b", "a")):
                self.wrong((put(self.sections(8), at, thing), (), (), ()), (0, at))

    def test_unlike_names(self):
        self.wrong(((NORTH, NORTH), (), (), ()), (0, 1))
        self.wrong(((NORTH, put(OLD, 0, "north")), (), (), ()), (0, 1))
        self.wrong(((NORTH, OLD, put(EAST, 0, "north")), (), (), ()), (0, 2))
        self.wrong(((NORTH, OLD, LOOP, OLD, NORTH), (), (), ()), (0, 3))

    def test_the_first_is_told(self):
        self.wrong(((NORTH, NORTH, None), (), (), ()), (0, 1))
        self.wrong(((NORTH, None, NORTH), (), (), ()), (0, 1))
        self.wrong(((None, NORTH, NORTH), (), (), ()), (0, 0))

    def test_like_sections_of_other_names(self):
        self.good(((NORTH, put(NORTH, 0, "south")), (), (), ()))


class HaltPlaces(Asked):
    def setUp(self):
        self.three = (long_section("x", 8, "k"), long_section("y", 8, "l"), long_section("z", 8, "m"))
        self.all = letters(8, "k") + letters(8, "l") + letters(8, "m")

    def test_how_many(self):
        for many in range(0, 21):
            self.good((self.three, self.all[:many], (), ()))
        for many in range(21, 25):
            self.wrong((self.three, self.all[:many], (), ()), (1,))

    def test_marks_of_any_section(self):
        for name in self.all:
            self.good((self.three, (name,), (), ()))
        for name in ("a", "x", "y", "z", "k", "ki", "kaa"):
            self.wrong((self.three, (name,), (), ()), (1, 0))

    def test_they_rise(self):
        self.wrong((self.three, ("ka", "ka"), (), ()), (1, 1))
        self.wrong((self.three, ("kb", "ka"), (), ()), (1, 1))
        self.wrong((self.three, ("ka", "la", "kb"), (), ()), (1, 2))
        self.wrong((self.three, ("ka", "kc", "kb", "kd"), (), ()), (1, 2))
        self.wrong((self.three, ("ma", "la", "ka"), (), ()), (1, 1))

    def test_they_rise_as_texts(self):
        section = ("north", ("b", "ab", "a", "aa"), ((1, 0, 0),) * 3)
        self.good(((section,), ("a", "aa", "ab", "b"), (), ()))
        self.wrong(((section,), ("a", "b", "aa"), (), ()), (1, 2))

    def test_none_that_is_no_name(self):
        halts = self.all[:20]
        for at in (0, 1, 10, 19):
            for thing in STRANGE + (("ka",), ["ka"], "KA", b"ka"):
                self.wrong((self.three, put(halts, at, thing), (), ()), (1, at))

    def test_the_first_is_told(self):
        self.wrong((self.three, ("ka", "q", "ka", None), (), ()), (1, 1))
        self.wrong((self.three, ("kb", "ka", "q", None), (), ()), (1, 1))
        self.wrong((self.three, ("ka", None, "q", "ka"), (), ()), (1, 1))


class BesidePlaces(Asked):
    def setUp(self):
        self.sections = tuple(long_section(name, 2) for name in letters(8))

    def book(self, *besides):
        return (self.sections, (), besides, ())

    def test_how_many(self):
        four = (("a", "b"), ("c", "d"), ("e", "f"), ("g", "h"))
        for many in range(0, 5):
            self.good(self.book(*four[:many]))
        self.wrong(self.book(*four, ("a", "b")), (2,))
        self.wrong(self.book(*four, None), (2,))

    def test_how_many_in_each(self):
        self.wrong(self.book(()), (2, 0))
        self.wrong(self.book(("a",)), (2, 0))
        for many in (2, 3, 4):
            self.good(self.book(letters(many)))
        for many in (5, 6, 8):
            self.wrong(self.book(letters(many)), (2, 0))
        self.good(self.book(("h", "a", "c", "b"), ("g", "d", "f", "e")))
        self.wrong(self.book(("a", "b"), ("c",)), (2, 1))

    def test_unlike_names(self):
        self.wrong(self.book(("a", "a")), (2, 0))
        self.wrong(self.book(("a", "b", "a")), (2, 0))
        self.wrong(self.book(("a", "b"), ("c", "d", "d", "e")), (2, 1))

    def test_names_of_sections(self):
        self.wrong(self.book(("a", "q")), (2, 0))
        self.wrong(self.book(("q", "a")), (2, 0))
        self.wrong(self.book(("q", "r")), (2, 0))
        self.wrong(self.book(("a", "b"), ("c", "d", "q")), (2, 1))
        # A MARK of a SECTION is called so, but no SECTION.
        self.wrong(((NORTH, OLD), (), (("north", "a"),), ()), (2, 0))

    def test_in_none_ahead(self):
        self.wrong(self.book(("a", "b"), ("b", "c")), (2, 1))
        self.wrong(self.book(("a", "b"), ("a", "b")), (2, 1))
        self.wrong(self.book(("a", "b"), ("c", "d"), ("e", "f", "a")), (2, 2))
        self.wrong(self.book(("a", "b"), ("c", "d"), ("e", "f"), ("g", "d")), (2, 3))

    def test_none_that_is_no_tuple_of_names(self):
        for thing in STRANGE + (["c", "d"], "cd", {"c": 1, "d": 1}, {"c", "d"}):
            self.wrong(self.book(("a", "b"), thing), (2, 1))
            self.wrong(self.book(thing, ("a", "b")), (2, 0))
        for thing in STRANGE:
            self.wrong(self.book(("a", "b"), ("c", thing)), (2, 1))
            self.wrong(self.book((thing, "c"), ("a", "b")), (2, 0))
            self.wrong(self.book(("a", "b", "c", thing)), (2, 0))
            self.wrong(self.book((thing, thing)), (2, 0))

    def test_the_first_is_told(self):
        self.wrong(self.book(("a", "b"), ("b", "c"), None, ("q", "q")), (2, 1))
        self.wrong(self.book(("a", "b"), ("q", "c"), ("a", "b")), (2, 1))
        self.wrong(self.book(("q", "b"), ("b", "q")), (2, 0))


class BadgePlaces(Asked):
    def book(self, *badges):
        return ((EAST,), (), (), badges)

    def test_how_many(self):
        badges = tuple((name, "days", 1) for name in letters(8))
        for many in range(0, 7):
            self.good(self.book(*badges[:many]))
        self.wrong(self.book(*badges[:7]), (3,))
        self.wrong(self.book(*badges[:8]), (3,))

    def test_sorts(self):
        for sort in ("length", "climb", "days", "sections"):
            self.good(self.book(("hill", sort, 1)))
        for sort in (
            "fall", "day", "section", "Length", "length ", "", "pieces", b"days", ("days",), ["days"], Like(),
            "lengthclimb",
        ) + STRANGE:
            self.wrong(self.book(("hill", sort, 1)), (3, 0))

    def test_numbers(self):
        for number in (1, 2, 9999, 10000, 99998, 99999):
            self.good(self.book(("hill", "length", number)))
        for number in (0, -1, 100000, 10 ** 5000, True, False, None, "5", (5,)) + NO_KEYS:
            self.wrong(self.book(("hill", "length", number)), (3, 0))

    def test_names(self):
        self.good(self.book(("abcdefgh", "days", 1)))
        for name in STRANGE:
            self.wrong(self.book(("hill", "days", 1), (name, "days", 1)), (3, 1))

    def test_unlike_names(self):
        self.good(self.book(("hill", "days", 1), ("far", "days", 1)))
        self.wrong(self.book(("hill", "days", 1), ("hill", "days", 1)), (3, 1))
        self.wrong(self.book(("hill", "days", 1), ("far", "days", 1), ("hill", "climb", 2)), (3, 2))

    def test_may_be_called_like_anything_else(self):
        self.good(self.book(("east", "days", 1), ("z", "climb", 2), ("days", "length", 3)))

    def test_none_that_is_no_badge(self):
        for thing in STRANGE + (
            ["far", "days", 1], ("far", "days"), ("far", "days", 1, 1), ("days", "far", 1), (1, "days", "far"),
        ):
            self.wrong(self.book(("hill", "days", 1), thing), (3, 1))

    def test_the_first_is_told(self):
        self.wrong(self.book(("a", "days", 1), ("a", "days", 2), None), (3, 1))
        self.wrong(self.book(("a", "days", 1), ("b", "days", 0), ("a", "days", 2)), (3, 1))


if __name__ == "__main__":
    unittest.main()
