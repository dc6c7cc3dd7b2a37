"""What is told of good SECTIONS and good BOOKS."""

import copy
import unittest

from pathbook.books import (
    badge_of, besides_of, come, kept, lost, numbers_of, pieces_of, section_of, stretch_at, whole_of,
)
from pathbook.errors import NoSection
from tests.samples import ANYTHING, BOOK, EAST, LOOP, NO_KEYS, NORTH, OLD, PLAIN, WEST, long_section, put

SECTIONS = (NORTH, OLD, LOOP, EAST, WEST)
NO_SECTIONS = ANYTHING + NO_KEYS + ("a", "hill", "nort", "northx", "norti", "oldd", ("north",), ["north"], b"north")

NORTH_PIECES = [("north", "a", "b"), ("north", "b", "c")]
OLD_PIECES = [("old", "b", "c"), ("old", "a", "b"), ("old", "a", "d")]
LOOP_PIECES = [("loop", "b", "e"), ("loop", "a", "e"), ("loop", "a", "b"), ("loop", "b", "f")]

# The SECTION north was moved: it keeps a b, the other way round; old is shorter; south is like the north that was.
MOVED = (
    (("south", ("a", "b", "c"), ((1, 1, 1), (1, 1, 1))), ("north", ("b", "a", "c", "d"), ((9, 9, 9),) * 3),
     ("old", ("a", "d"), ((1, 0, 0),))),
    (), (), (),
)


class OfASection(unittest.TestCase):
    def test_pieces(self):
        self.assertEqual(pieces_of(NORTH), NORTH_PIECES)
        self.assertEqual(pieces_of(section=OLD), OLD_PIECES)
        self.assertEqual(pieces_of(LOOP), LOOP_PIECES)
        self.assertEqual(pieces_of(EAST), [("east", "y", "z")])

    def test_pieces_have_the_lesser_text_first(self):
        section = ("s", ("b", "aa", "a", "ab", "b"), ((1, 0, 0),) * 4)
        self.assertEqual(pieces_of(section), [("s", "aa", "b"), ("s", "a", "aa"), ("s", "a", "ab"), ("s", "ab", "b")])

    def test_pieces_of_the_most_marks(self):
        found = pieces_of(long_section("s", 8))
        self.assertEqual(found, [("s", "abcdefgh"[k], "abcdefgh"[k + 1]) for k in range(7)])

    def test_pieces_are_tuples_in_a_new_list(self):
        first = pieces_of(NORTH)
        self.assertIs(type(first), list)
        self.assertIs(type(first[0]), tuple)
        first.reverse()
        first.append("x")
        self.assertEqual(pieces_of(NORTH), NORTH_PIECES)

    def test_whole(self):
        self.assertEqual(whole_of(NORTH), (17, 3, 6))
        self.assertEqual(whole_of(section=OLD), (1002, 1000, 999))
        self.assertEqual(whole_of(LOOP), (34, 16, 20))
        self.assertEqual(whole_of(EAST), (3, 0, 0))
        self.assertEqual(whole_of(("s", tuple("abcdefgh"), ((999, 998, 997),) * 7)), (6993, 6986, 6979))
        self.assertIs(type(whole_of(NORTH)), tuple)


class SectionOf(unittest.TestCase):
    def test_of_each(self):
        for section in SECTIONS:
            self.assertEqual(section_of(BOOK, section[0]), section)
        self.assertEqual(section_of(book=BOOK, name="old"), OLD)

    def test_of_anything_else(self):
        for name in NO_SECTIONS:
            with self.assertRaises(NoSection) as caught:
                section_of(BOOK, name)
            self.assertIs(caught.exception.name, name)
        with self.assertRaises(NoSection) as caught:
            section_of(book=PLAIN, name="north")
        self.assertEqual(caught.exception.name, "north")


class NumbersOf(unittest.TestCase):
    def test_marks_of_several_sections(self):
        self.assertEqual(numbers_of(BOOK, "a"), [("north", 0), ("old", 2), ("loop", 2)])
        self.assertEqual(numbers_of(BOOK, "b"), [("north", 1), ("old", 1), ("loop", 0), ("loop", 3)])
        self.assertEqual(numbers_of(BOOK, "c"), [("north", 2), ("old", 0)])
        self.assertEqual(numbers_of(BOOK, "y"), [("east", 1), ("west", 0)])

    def test_marks_of_one_section(self):
        self.assertEqual(numbers_of(book=BOOK, mark="d"), [("old", 3)])
        self.assertEqual(numbers_of(BOOK, "f"), [("loop", 4)])

    def test_in_the_order_of_the_book(self):
        book = ((WEST, LOOP, EAST, OLD, NORTH), (), (), ())
        self.assertEqual(numbers_of(book, "b"), [("loop", 0), ("loop", 3), ("old", 1), ("north", 1)])

    def test_no_mark(self):
        for mark in ("q", "north", "hill", "bb"):
            self.assertEqual(numbers_of(BOOK, mark), [])

    def test_what_is_told_is_the_askers_own(self):
        first = numbers_of(BOOK, "a")
        first.clear()
        self.assertEqual(numbers_of(BOOK, "a"), [("north", 0), ("old", 2), ("loop", 2)])
        nothing = numbers_of(BOOK, "q")
        nothing.append(1)
        self.assertEqual(numbers_of(BOOK, "q"), [])


class BesidesOf(unittest.TestCase):
    def test_in_the_order_of_their_besides(self):
        for name, wanted in (
            ("north", ("old",)), ("old", ("north",)),
            ("west", ("loop", "east")), ("loop", ("west", "east")), ("east", ("west", "loop")),
        ):
            self.assertEqual(besides_of(BOOK, name), wanted)
            self.assertIs(type(besides_of(BOOK, name)), tuple)

    def test_of_four(self):
        book = ((NORTH, OLD, LOOP, EAST, WEST), (), (("west", "north", "loop", "east"),), ())
        self.assertEqual(besides_of(book=book, name="loop"), ("west", "north", "east"))
        self.assertEqual(besides_of(book, "old"), ())

    def test_where_none_does(self):
        self.assertEqual(besides_of(PLAIN, "east"), ())

    def test_no_section(self):
        for name in NO_SECTIONS:
            with self.assertRaises(NoSection) as caught:
                besides_of(BOOK, name)
            self.assertIs(caught.exception.name, name)
        with self.assertRaises(NoSection):
            besides_of(PLAIN, "north")


class BadgeOf(unittest.TestCase):
    def test_of_each(self):
        self.assertEqual(badge_of(BOOK, "hill"), ("climb", 900))
        self.assertEqual(badge_of(BOOK, "far"), ("length", 99999))
        self.assertEqual(badge_of(BOOK, "old"), ("days", 1))
        self.assertEqual(badge_of(book=BOOK, name="a"), ("sections", 5))

    def test_where_there_is_none(self):
        for name in ("north", "b", "hil", "climb", "days"):
            self.assertIsNone(badge_of(BOOK, name))
        self.assertIsNone(badge_of(PLAIN, "hill"))


class StretchAt(unittest.TestCase):
    def test_of_each(self):
        for section in SECTIONS:
            for k, piece in enumerate(pieces_of(section)):
                self.assertEqual(stretch_at(BOOK, piece), (section[0], k))
        self.assertEqual(stretch_at(BOOK, ("old", "a", "b")), ("old", 1))
        self.assertEqual(stretch_at(book=BOOK, piece=("loop", "a", "b")), ("loop", 2))

    def test_where_none_has_it(self):
        for piece in (
            ("north", "a", "c"), ("north", "a", "d"), ("east", "a", "b"), ("south", "a", "b"), ("loop", "b", "c"),
            ("north", "x", "y"), ("old", "c", "d"),
        ):
            self.assertIsNone(stretch_at(BOOK, piece))
        self.assertIsNone(stretch_at(PLAIN, ("north", "a", "b")))


class TwoBooks(unittest.TestCase):
    def test_moved(self):
        self.assertEqual(kept(BOOK, MOVED), [("north", "a", "b"), ("old", "a", "d")])
        self.assertEqual(lost(BOOK, MOVED), [
            ("east", "y", "z"), ("loop", "a", "b"), ("loop", "a", "e"), ("loop", "b", "e"), ("loop", "b", "f"),
            ("north", "b", "c"), ("old", "a", "b"), ("old", "b", "c"), ("west", "x", "y"),
        ])
        self.assertEqual(come(BOOK, MOVED), [
            ("north", "a", "c"), ("north", "c", "d"), ("south", "a", "b"), ("south", "b", "c"),
        ])

    def test_the_other_way_round(self):
        self.assertEqual(kept(old=MOVED, new=BOOK), kept(BOOK, MOVED))
        self.assertEqual(lost(old=MOVED, new=BOOK), come(BOOK, MOVED))
        self.assertEqual(come(old=MOVED, new=BOOK), lost(BOOK, MOVED))

    def test_the_same(self):
        every = sorted(piece for section in SECTIONS for piece in pieces_of(section))
        self.assertEqual(kept(BOOK, BOOK), every)
        self.assertEqual(lost(BOOK, BOOK), [])
        self.assertEqual(come(BOOK, BOOK), [])

    def test_nothing_in_common(self):
        other = ((NORTH,), (), (), ())
        self.assertEqual(kept(PLAIN, other), [])
        self.assertEqual(lost(PLAIN, other), [("east", "y", "z")])
        self.assertEqual(come(PLAIN, other), NORTH_PIECES)

    def test_the_same_marks_of_another_section_are_another_piece(self):
        other = ((put(EAST, 0, "north"),), (), (), ())
        self.assertEqual(kept(PLAIN, other), [])

    def test_numbers_do_not_matter(self):
        other = ((put(EAST, 2, ((9, 8, 7),)),), (), (), ())
        self.assertEqual(kept(PLAIN, other), [("east", "y", "z")])

    def test_what_is_told_is_the_askers_own(self):
        for ask in (kept, lost, come):
            first = ask(BOOK, MOVED)
            before = list(first)
            self.assertIs(type(first), list)
            first.clear()
            first.append("x")
            self.assertEqual(ask(BOOK, MOVED), before)


class HandedIn(unittest.TestCase):
    def test_nothing_is_changed(self):
        book, moved = copy.deepcopy(BOOK), copy.deepcopy(MOVED)
        for section in book[0]:
            pieces_of(section)
            whole_of(section)
            section_of(book, section[0])
            besides_of(book, section[0])
        numbers_of(book, "a")
        badge_of(book, "hill")
        stretch_at(book, ("north", "a", "b"))
        kept(book, moved)
        lost(book, moved)
        come(book, moved)
        self.assertEqual((book, moved), (BOOK, MOVED))

    def test_a_name_that_is_refused_is_not_changed(self):
        for name in (["north"], {"north": ["a"]}):
            before = copy.deepcopy(name)
            with self.assertRaises(NoSection):
                section_of(BOOK, name)
            self.assertEqual(name, before)


if __name__ == "__main__":
    unittest.main()
