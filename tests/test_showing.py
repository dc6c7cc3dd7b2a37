"""BOOKS, LEGS and THINGS as texts, and there and back."""

import copy
import unittest

from pathbook.books import need_book
from pathbook.legs import need_legs
from pathbook.reading import book_in, legs_in, thing_in, things_in
from pathbook.showing import book_text, legs_text, thing_text, things_text
from tests.sample_texts import (
    BOOKS, EVERY_LEGS, FULL_BOOK, LONG_LEGS, SHORT_BOOKS, SHORT_LEGS, SHORT_THINGS, THINGS,
)


def spread(text):
    """The same words with other gaps, and lines without words around."""
    return "\n  \n\n   " + text.replace(" ", "    ") + "  \n \n"


class Samples(unittest.TestCase):
    def test_they_are_good(self):
        for book in BOOKS:
            self.assertIsNone(need_book(book))
        for legs in EVERY_LEGS:
            self.assertIsNone(need_legs(legs))

    def test_they_reach_the_bounds(self):
        self.assertEqual([len(four) for four in FULL_BOOK], [8, 20, 4, 6])
        self.assertEqual({len(marks) for name, marks, stretches in FULL_BOOK[0]}, {8})
        self.assertEqual({len(legs) for legs in LONG_LEGS}, {59, 60})


class Told(unittest.TestCase):
    def test_books(self):
        for book, text in SHORT_BOOKS:
            self.assertEqual(book_text(book), text)
            self.assertEqual(book_text(book=book), text)

    def test_legs(self):
        for legs, text in SHORT_LEGS:
            self.assertEqual(legs_text(legs), text)
            self.assertEqual(legs_text(legs=legs), text)

    def test_things(self):
        for thing, text in SHORT_THINGS:
            self.assertEqual(thing_text(thing), text)
            self.assertEqual(thing_text(thing=thing), text)
        for day in (0, 7, 9999):
            for book, text in SHORT_BOOKS:
                self.assertEqual(thing_text(("book", day, book)), f"book {day} {text}")
            for legs, text in SHORT_LEGS:
                self.assertEqual(thing_text(("walk", day, "ann", legs)), f"walk {day} ann {text}")

    def test_one_blank_between_two_words_and_no_more(self):
        for thing in THINGS:
            text = thing_text(thing)
            self.assertRegex(text, r"\A[a-z0-9/]+( [a-z0-9/]+)*\Z")
            self.assertIs(type(text), str)

    def test_asked_again_the_same(self):
        for thing in THINGS[::7]:
            before = copy.deepcopy(thing)
            self.assertEqual(thing_text(thing), thing_text(thing))
            self.assertEqual(thing, before)


class ManyThings(unittest.TestCase):
    things = tuple(thing for thing, text in SHORT_THINGS)
    texts = tuple(text for thing, text in SHORT_THINGS)

    def test_one_behind_the_other(self):
        self.assertEqual(things_text(self.things), "\n".join(self.texts))
        self.assertEqual(things_text(things=list(self.things)), "\n".join(self.texts))
        self.assertEqual(things_text(self.things[::-1], None), "\n".join(self.texts[::-1]))

    def test_none(self):
        self.assertEqual(things_text(()), "")
        self.assertEqual(things_text([]), "")
        for only in ("book", "closed", "walk"):
            self.assertEqual(things_text((), only), "")

    def test_one(self):
        for thing, text in SHORT_THINGS:
            self.assertEqual(things_text((thing,)), text)
            self.assertEqual(things_text([thing]), text)

    def test_twins(self):
        self.assertEqual(things_text((self.things[1],) * 3), "closed north 3 9\nclosed north 3 9\nclosed north 3 9")

    def test_only(self):
        for only in ("book", "closed", "walk"):
            wanted = "\n".join(text for text in self.texts if text.split(" ")[0] == only)
            self.assertNotEqual(wanted, "")
            self.assertEqual(things_text(self.things, only), wanted)
            self.assertEqual(things_text(only=only, things=list(self.things)), wanted)

    def test_only_where_there_is_none_such(self):
        self.assertEqual(things_text(self.things[1:], "book"), "")
        self.assertEqual(things_text(self.things[:1], only="walk"), "")
        # The NAME is that word, but the THING doesn't begin with it.
        self.assertEqual(things_text([("closed", "walk", 1, 2)], "walk"), "")

    def test_a_list_that_is_handed_in_is_not_changed(self):
        things = list(self.things)
        things_text(things, "walk")
        self.assertEqual(things, list(self.things))


class ThereAndBack(unittest.TestCase):
    def back(self, read, told, thing, text):
        self.assertEqual(read(text), thing)
        self.assertEqual(told(read(text)), text)
        self.assertEqual(read(spread(text), 9999), thing)
        self.assertEqual(repr(read(text)), repr(thing))

    def test_books(self):
        for book in BOOKS:
            self.back(book_in, book_text, book, book_text(book))

    def test_legs(self):
        for legs in EVERY_LEGS:
            self.back(legs_in, legs_text, legs, legs_text(legs))

    def test_things(self):
        for thing in THINGS:
            self.back(thing_in, thing_text, thing, thing_text(thing))
            self.back(things_in, things_text, (thing,), thing_text(thing))

    def test_all_things(self):
        for things in (THINGS[:99], THINGS[::-1], THINGS * 3, ()):
            self.back(things_in, things_text, things, things_text(things))


if __name__ == "__main__":
    unittest.main()
