"""Whole numbers, NAMES, DAYS, and the words of texts."""

from pathbook.errors import BadDay, BadName

LETTERS = "abcdefghijklmnopqrstuvwxyz"
FIGURES = "0123456789"
LONGEST_NAME = 8
LAST_DAY = 9999
MOST_FIGURES = 5
RIDE = ("ride",)
MOST_LEGS = 60
# The greatest number of a MARK that a LEG can name.
LAST_MARK = 7


def is_whole(thing, least=0, most=9999):
    """Whether anything is a whole number from least to most."""
    # True and False are ints to Python, but no whole numbers here.
    return isinstance(thing, int) and not isinstance(thing, bool) and least <= thing <= most


def is_tuple(thing, least, most):
    """Whether anything is a tuple of least to most things."""
    return isinstance(thing, tuple) and least <= len(thing) <= most


def is_name(thing):
    """Whether anything is a NAME."""
    if not isinstance(thing, str) or not 1 <= len(thing) <= LONGEST_NAME:
        return False
    return all([sign in LETTERS for sign in thing])


def need_name(thing):
    """Refuse with BadName what is no NAME."""
    if not is_name(thing):
        raise BadName("a NAME is 1 to 8 small letters")


def need_day(thing):
    """Refuse with BadDay what is no DAY."""
    if not is_whole(thing, 0, LAST_DAY):
        raise BadDay("a DAY is a whole number from 0 to 9999")


def number_in(word, most=9999):
    """The whole number from 0 to most that a text writes by figures, None of other texts."""
    # The length is looked at first: int() reads no text of thousands of figures.
    if not 1 <= len(word) <= MOST_FIGURES or not all([sign in FIGURES for sign in word]):
        return None
    if word[0] == "0" and len(word) > 1:
        return None
    number = int(word)
    return number if number <= most else None


def rows_of(text):
    """The rows of a text, each a list of its words."""
    return [[word for word in row.split(" ") if word] for row in text.split("\n")]
