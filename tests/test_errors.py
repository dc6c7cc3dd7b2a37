"""The refusals: their families, their fields, and that they can be raised and caught."""

import unittest

from pathbook import errors

BARE = ("BadName", "BadDay", "BadSection", "BadLegs", "BadThing", "BadLine")
UNDER_PATH_ERROR = BARE + ("BadBook", "SecondBook", "BadPlan", "BadText")
UNDER_NOT_THERE = ("NoBook", "NoSection", "NotTold")
EVERY = ("PathError", "NotThere", "TooMany") + UNDER_PATH_ERROR + UNDER_NOT_THERE

# Class, the name of its only field, and what that may be.
ONE_FIELD = (
    ("BadBook", "place", ((), (0,), (3, 5))),
    ("SecondBook", "day", (0, 9999)),
    ("BadPlan", "number", (-1, 0, 60)),
    ("NoBook", "day", (0, 9999)),
    ("NoSection", "name", ("north", None, 5, True, ["a"], {"a": []}, 10 ** 5000)),
    ("TooMany", "most", (60, 99, 0)),
)


def named(name):
    return getattr(errors, name)


def made(name):
    """One of the class, with fields where they can't be left out."""
    if name in ("BadBook", "SecondBook", "BadPlan", "NoBook", "NoSection"):
        return named(name)(5)
    return named(name)()


class Families(unittest.TestCase):
    def test_straight_under(self):
        self.assertEqual(errors.PathError.__bases__, (ValueError,))
        self.assertEqual(errors.NotThere.__bases__, (LookupError,))
        self.assertEqual(errors.TooMany.__bases__, (OverflowError,))
        for name in UNDER_PATH_ERROR:
            self.assertEqual(named(name).__bases__, (errors.PathError,), name)
        for name in UNDER_NOT_THERE:
            self.assertEqual(named(name).__bases__, (errors.NotThere,), name)

    def test_under_no_other(self):
        families = {name: "PathError" for name in UNDER_PATH_ERROR}
        families.update({name: "NotThere" for name in UNDER_NOT_THERE})
        for name in EVERY:
            above = [other for other in EVERY if issubclass(named(name), named(other))]
            wanted = {name, families.get(name, name)}
            self.assertEqual(set(above), wanted, name)

    def test_each_is_defined_there(self):
        for name in EVERY:
            self.assertEqual(named(name).__module__, "pathbook.errors")
            self.assertEqual(named(name).__name__, name)


class Fields(unittest.TestCase):
    def test_one_field_by_place_and_by_name(self):
        for name, field, things in ONE_FIELD:
            for thing in things:
                self.assertEqual(getattr(named(name)(thing), field), thing)
                self.assertEqual(getattr(named(name)(**{field: thing}), field), thing)

    def test_fields_that_lack_are_refused(self):
        for name in ("BadBook", "SecondBook", "BadPlan", "NoBook", "NoSection"):
            with self.assertRaises(TypeError):
                named(name)()

    def test_bad_text(self):
        for found, wanted in (
            (errors.BadText(), (0, 0)),
            (errors.BadText(3), (3, 0)),
            (errors.BadText(3, 7), (3, 7)),
            (errors.BadText(word=7), (0, 7)),
            (errors.BadText(line=3), (3, 0)),
            (errors.BadText(word=7, line=3), (3, 7)),
            (errors.BadText(3, word=7), (3, 7)),
        ):
            self.assertEqual((found.line, found.word), wanted)

    def test_too_many(self):
        self.assertEqual(errors.TooMany().most, 99)
        self.assertEqual(errors.TooMany(60).most, 60)
        self.assertEqual(errors.TooMany(most=60).most, 60)

    def test_each_has_fields_of_its_own(self):
        first, second = errors.BadText(1, 2), errors.BadText(3, 4)
        self.assertEqual((first.line, first.word, second.line, second.word), (1, 2, 3, 4))


class Caught(unittest.TestCase):
    def caught_by(self, name, family):
        one = made(name)
        try:
            raise one
        except family as why:
            self.assertIs(why, one)

    def test_by_own_class(self):
        for name in EVERY:
            self.caught_by(name, named(name))

    def test_by_family(self):
        for name in UNDER_PATH_ERROR:
            self.caught_by(name, errors.PathError)
            self.caught_by(name, ValueError)
        for name in UNDER_NOT_THERE:
            self.caught_by(name, errors.NotThere)
            self.caught_by(name, LookupError)
        self.caught_by("PathError", ValueError)
        self.caught_by("NotThere", LookupError)
        self.caught_by("TooMany", OverflowError)

    def test_with_words(self):
        for name in BARE + ("PathError", "NotThere", "NotTold"):
            with self.assertRaises(named(name)):
                raise named(name)("some words")

    def test_fields_stay_when_raised(self):
        with self.assertRaises(errors.BadBook) as caught:
            raise errors.BadBook((1, 2))
        self.assertEqual(caught.exception.place, (1, 2))


if __name__ == "__main__":
    unittest.main()
