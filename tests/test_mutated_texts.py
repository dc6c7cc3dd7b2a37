"""Good lines with a word otherwise, left out, put in, told twice, cut off: refused where a slower reading says so."""

import unittest

from pathbook.errors import BadText
from pathbook.reading import book_in, legs_in, thing_in
from pathbook.showing import book_text, legs_text, thing_text
from tests import naive_texts
from tests.sample_texts import EVERY_LEGS, FULL_BOOK, LONG_LEGS, SHORT_BOOKS, SHORT_LEGS, SHORT_THINGS, WIDE_BOOK
from tests.samples import BOOK

BOOK_POOL = "/ section halts beside badge a c north old q Q 0 1 999 1000 00 99999 100000 days climb abcdefghi".split(" ")
LEGS_POOL = "/ north ride a A 0 1 7 8 10 -1 abcdefghi".split(" ")
THING_POOL = "/ book closed walk section a A 0 3 9999 10000 01 abcdefghi".split(" ")

# BOOKS that stand right at a bound: the last one more of its kind can't stand.
TIGHT = (
    "section a a 1 0 0 b 1 0 0 c 1 0 0 a 1 0 0 d 1 0 0 b 1 0 0 e 1 0 0 a / halts a b c d e",
    "section a b 1 0 0 c / section b c 1 0 0 d / section c b 1 0 0 d / halts b d / beside c a / badge a days 1",
    "section a b 1 0 0 c / " + " / ".join(f"badge {name} climb 1" for name in "abcdef"),
    " / ".join(f"section {name} a 1 0 0 b" for name in "abcd") + " / beside d b / beside a c",
    " / ".join(f"section {name} a 1 0 0 b" for name in "abcdefgh") + " / beside d b h a / beside c e",
)


def mutants(words, pool, step):
    """Every list of words that comes of one change, at each so many words, behind the number of words ahead of it."""
    for k in range(len(words), -1, -step):
        yield k, words[:k]
        for word in pool:
            yield k, words[:k] + [word] + words[k:]
    for k in range(len(words) - 1, -1, -step):
        yield k, words[:k] + words[k + 1:]
        yield k, words[:k] + [words[k]] + words[k:]
        yield k, words[:k] + words[k + 1:k + 2] + [words[k]] + words[k + 2:]
        for word in pool:
            yield k, words[:k] + [word] + words[k + 1:]


class Mutated(unittest.TestCase):
    def all_same(self, read, whole, can_stand, line, pool, step=1):
        for good, words in mutants(line.split(" "), pool, step):
            changed = " ".join(words)
            wanted = whole(words)
            if wanted is not None:
                self.assertEqual(read(changed), wanted)
            elif words:
                with self.assertRaises(BadText, msg=changed) as caught:
                    read(changed)
                found = (caught.exception.line, caught.exception.word)
                self.assertEqual(found, (1, naive_texts.first_wrong(words, can_stand, good)), changed)

    def test_books(self):
        for line in [text for book, text in SHORT_BOOKS] + list(TIGHT):
            self.all_same(book_in, naive_texts.whole_book, naive_texts.book_goes_on, line, BOOK_POOL)

    def test_great_books(self):
        for book in (BOOK, FULL_BOOK, WIDE_BOOK):
            self.all_same(book_in, naive_texts.whole_book, naive_texts.book_goes_on, book_text(book), ["/", "a", "1"], 7)

    def test_legs(self):
        for line in [text for legs, text in SHORT_LEGS] + [legs_text(legs) for legs in EVERY_LEGS[::29]]:
            self.all_same(legs_in, naive_texts.whole_legs, naive_texts.legs_go_on, line, LEGS_POOL)

    def test_long_legs(self):
        for legs in LONG_LEGS:
            self.all_same(legs_in, naive_texts.whole_legs, naive_texts.legs_go_on, legs_text(legs), ["/", "a", "1"])

    def test_things(self):
        books = [thing_text(("book", 12, book)) for book, text in SHORT_BOOKS[:3]]
        for line in [text for thing, text in SHORT_THINGS] + books:
            self.all_same(thing_in, naive_texts.whole_thing, naive_texts.thing_goes_on, line, THING_POOL)


if __name__ == "__main__":
    unittest.main()
