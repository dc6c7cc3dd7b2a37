"""BOOKS, LEGS and THINGS read: gaps, lines and their numbers, and the word at which a text is refused."""

import unittest

from pathbook.errors import BadText
from pathbook.reading import book_in, legs_in, thing_in, things_in
from tests.sample_texts import SHORT_BOOKS, SHORT_LEGS, SHORT_THINGS
from tests.samples import ANYTHING, NO_KEYS

ONE_LINE = (book_in, legs_in, thing_in)
EVERY = ONE_LINE + (things_in,)
NO_TEXTS = tuple(thing for thing in ANYTHING + NO_KEYS if not isinstance(thing, str)) + (
    b"north 0 1", ["north 0 1"], ("north 0 1",), bytearray(b"north 0 1"), 0, 1, 5, (("north", 0, 1),),
)
GOOD = {
    book_in: SHORT_BOOKS[0], legs_in: SHORT_LEGS[0], thing_in: SHORT_THINGS[1],
    things_in: ((SHORT_THINGS[1][0],), SHORT_THINGS[1][1]),
}
EIGHT = " / ".join(f"section {name} a 1 0 0 b" for name in "abcdefgh")
SIX = " / ".join(f"badge {name} days 1" for name in "abcdef")
LONGEST = "section s a 1 0 0 b 1 0 0 c 1 0 0 d 1 0 0 e 1 0 0 f 1 0 0 g 1 0 0 h"
WIDE = LONGEST + " / section t i 1 0 0 j 1 0 0 k 1 0 0 l 1 0 0 m 1 0 0 n 1 0 0 o 1 0 0 p" \
    " / section u q 1 0 0 r 1 0 0 s 1 0 0 t 1 0 0 u 1 0 0 v 1 0 0 w 1 0 0 x"


class Refused(unittest.TestCase):
    def refused(self, read, text, line, word, *first):
        with self.assertRaises(BadText) as caught:
            read(text, *first)
        found = (caught.exception.line, caught.exception.word)
        self.assertEqual(found, (line, word), (read.__name__, text))

    def at(self, read, marked):
        """The word that has a ! ahead of it, ! alone at the end where words lack, is refused, in any gaps."""
        words = marked.split(" ")
        word = [k + 1 for k, one in enumerate(words) if one[:1] == "!"][0]
        line = " ".join(one.lstrip("!") for one in words).strip(" ")
        for first in (1, 0, 9999):
            self.refused(read, line, first, word, first)
            self.refused(read, "\n \n   " + line.replace(" ", "   ") + "  ", first + 2, word, first)

    def book(self, marked):
        self.at(book_in, marked)
        self.at(thing_in, "book 7 " + marked)
        self.at(things_in, "book 7 " + marked)

    def legs(self, marked):
        self.at(legs_in, marked)
        self.at(thing_in, "walk 7 ann " + marked)
        self.at(things_in, "walk 7 ann " + marked)

    def thing(self, marked):
        self.at(thing_in, marked)
        self.at(things_in, marked)


class Lines(Refused):
    def test_no_text(self):
        for read in EVERY:
            for thing in NO_TEXTS:
                self.refused(read, thing, 0, 0)
                self.refused(read, thing, 0, 0, 9999)

    def test_by_names(self):
        for read in EVERY:
            thing, text = GOOD[read]
            self.assertEqual(read(text=text, first=0), thing)
            self.assertEqual(read(first=9999, text=text), thing)
            with self.assertRaises(BadText) as caught:
                read(first=70, text="\n?")
            self.assertEqual((caught.exception.line, caught.exception.word), (71, 1))

    def test_a_line_that_lacks(self):
        for read in ONE_LINE:
            for text, rows in (("", 1), (" ", 1), ("    ", 1), ("\n", 2), (" \n  ", 2), ("\n\n\n", 4), ("\n" * 12000, 12001)):
                self.refused(read, text, 1 + rows, 1)
                for first in (0, 1, 5, 9999):
                    self.refused(read, text, first + rows, 1, first)

    def test_no_line_lacks_of_things(self):
        for text in ("", " ", "\n", " \n  ", "\n\n\n", " " * 12000):
            self.assertEqual(things_in(text), ())
            self.assertEqual(things_in(text, 9999), ())

    def test_a_second_line(self):
        for read in ONE_LINE:
            thing, text = GOOD[read]
            for more in (text, "?", "a", "section", "   ? ?", "/"):
                self.refused(read, f"{text}\n{more}", 2, 1)
                self.refused(read, f"{text}\n\n \n{more}\n?", 4, 1)
                self.refused(read, f"\n{text}\n{more}", 12, 1, 10)

    def test_the_first_line_that_is_not_good(self):
        for read in ONE_LINE:
            thing, text = GOOD[read]
            self.refused(read, f"?\n{text}", 1, 1)
            self.refused(read, f"{text} ?\n?", 1, len(text.split(" ")) + 1)
            self.refused(read, f"\n{text} ?\n{text}", 2, len(text.split(" ")) + 1)

    def test_lines_of_things(self):
        lines = [text for thing, text in SHORT_THINGS]
        wanted = tuple(thing for thing, text in SHORT_THINGS)
        self.assertEqual(things_in("\n".join(lines)), wanted)
        self.assertEqual(things_in("\n\n  \n".join(lines) + "\n"), wanted)
        self.assertIs(type(things_in(lines[0])), tuple)
        for at in range(len(lines)):
            bad = lines[:at] + ["walk 5"] + lines[at:] + ["?"]
            self.refused(things_in, "\n".join(bad), at + 1, 3)
            self.refused(things_in, "\n\n".join(bad), 2 * at, 3, 0)

    def test_twins_and_however_many(self):
        self.assertEqual(things_in("closed a 1 2\n" * 150), (("closed", "a", 1, 2),) * 150)
        self.assertEqual(things_in("closed a 1 2\nclosed  a 1 2"), (("closed", "a", 1, 2),) * 2)

    def test_two_books_of_a_day_are_only_read(self):
        text = "book 5 section a b 1 0 0 c\nbook 5 section a b 2 0 0 c"
        self.assertEqual([thing[1:] for thing in things_in(text)], [
            (5, ((("a", ("b", "c"), ((1, 0, 0),)),), (), (), ())), (5, ((("a", ("b", "c"), ((2, 0, 0),)),), (), (), ())),
        ])

    def test_gaps(self):
        self.assertEqual(legs_in("   north    0 3     /  east 5   2  "), (("north", 0, 3), ("ride",), ("east", 5, 2)))
        self.assertEqual(legs_in("north" + " " * 9000 + "0 3"), (("north", 0, 3),))
        self.assertEqual(legs_in("\n" * 9000 + "north 0 3" + "\n" * 2900), (("north", 0, 3),))

    def test_words_do_not_stand_apart_by_anything_else(self):
        self.legs("north 0 1 !/north 2 0")
        self.legs("north 0 !1/ north 2 0")
        self.legs("!north,0,1")
        self.book("section a b 1 0 0 !c/ halts b")

    def test_what_is_told_is_the_askers_own(self):
        for read in EVERY:
            thing, text = GOOD[read]
            self.assertEqual(read(text), read(text))
            self.assertEqual(read(text), thing)

    def test_thousands_of_signs(self):
        for word in ("1" * 5000, "0" * 5000, "a" * 12000, "9" * 11900, "/" * 5000):
            for read in EVERY:
                self.refused(read, word, 1, 1)
            self.legs(f"north !{word} 1")
            self.legs(f"north 0 !{word}")
            self.book(f"section a b !{word} 0 0 c")
            self.thing(f"closed a !{word} 5")
            self.thing(f"walk !{word} ann a 0 1")


class WordsOfBooks(Refused):
    def test_the_first_word(self):
        for word in ("!halts a", "!beside a b", "!badge a days 1", "!sections a b 1 0 0 c", "!Section", "!/", "!book"):
            self.book(word)

    def test_words_that_lack(self):
        whole = "section a b 1 0 0 c / section d e 1 2 3 f / halts b / beside a d / badge x days 1"
        words = whole.split(" ")
        good = [7, 15, 18, 22, 27]
        for many in range(len(words) + 1):
            begin = " ".join(words[:many])
            if many in good:
                self.assertEqual(len(book_in(begin)), 4)
            elif many:
                self.refused(book_in, begin, 1, many + 1)
                self.refused(thing_in, f"book 3 {begin}", 1, many + 3)
            else:
                self.refused(book_in, begin, 2, 1)
                self.refused(thing_in, "book 3", 1, 3)

    def test_names_and_marks(self):
        for name in ("A", "1", "a1", "abcdefghi", "/", "a-b", "0"):
            self.book(f"section !{name} a 1 0 0 b")
            self.book(f"section a !{name} 1 0 0 b")
            self.book(f"section a b 1 0 0 !{name}")
            self.book(f"section a b 1 0 0 c 1 0 0 !{name} 1 0 0 d / halts a")

    def test_numbers_of_stretches(self):
        for good in ("1", "9", "10", "999"):
            book_in(f"section a b {good} 0 0 c")
        for word in ("0", "1000", "01", "00", "-1", "+1", "a", "1.", "c", "/", "99999", "100000"):
            self.book(f"section a b !{word} 0 0 c")
            if word != "/":
                self.book(f"section a b 1 0 0 c !{word} 0 0 d")
        for good in ("0", "1", "10", "999"):
            book_in(f"section a b 1 {good} {good} c")
        for word in ("1000", "01", "00", "-0", "a", "/", "0x1", "99999"):
            self.book(f"section a b 1 !{word} 0 c")
            self.book(f"section a b 1 0 !{word} c")

    def test_marks_beside_those_ahead(self):
        self.book("section a b 1 0 0 !b")
        self.book("section a b 1 0 0 c 1 0 0 !c 1 0 0 d")
        self.book("section a b 1 0 0 c 1 0 0 !b 1 0 0 d")
        self.book("section a b 1 0 0 c 1 0 0 d 1 0 0 b 1 0 0 !c")
        self.book("section a c 1 0 0 b 1 0 0 d 1 0 0 c 1 0 0 !b / halts b")
        book_in("section a b 1 0 0 c 1 0 0 d 1 0 0 b 1 0 0 e")

    def test_how_many_marks(self):
        book_in(LONGEST)
        self.book(LONGEST + " !1 0 0 i")
        self.book(LONGEST + " !i")
        self.book(LONGEST + " !0")
        self.book(LONGEST + " / !1")
        self.book("section a b !")
        self.book("section a b !/ halts b")
        self.book("section a b !c 1 0 0 d")

    def test_how_many_sections(self):
        book_in(EIGHT)
        self.book(EIGHT + " / !section i a 1 0 0 b")
        self.book(EIGHT + " / !")
        book_in(EIGHT + " / halts a b / badge x days 1")
        for name in "abcdefg":
            self.book(EIGHT.replace("section h", f"section !{name}"))

    def test_a_section_behind_another_part(self):
        one = "section a b 1 0 0 c"
        self.book(one + " / halts b / !section d b 1 0 0 c")
        self.book(one + " / badge x days 1 / !section d b 1 0 0 c")
        self.book(one + " / section d b 1 0 0 c / beside a d / !section e b 1 0 0 c")

    def test_halts(self):
        one = "section a b 1 0 0 d 1 0 0 c"
        for good in ("b", "c", "d", "b c", "b d", "c d", "b c d"):
            self.assertEqual(book_in(f"{one} / halts {good}")[1], tuple(good.split(" ")))
        for marked in (
            "!", "!a", "!e", "!/", "!1", "!B", "!halts", "b !b", "c !b", "b d !c", "b c d !e", "b c d !d", "b c d !b",
            "b !/b", "b c !1", "b !a", "b / !halts c", "b / !section e b 1 0 0 c", "b !badge x days 1", "b / !b", "b / !",
        ):
            self.book(f"{one} / halts {marked}")
        self.book(one + " / badge x days 1 / !halts b")
        self.book(one + " !halts b")

    def test_how_many_halts(self):
        names = "abcdefghijklmnopqrstuvwx"
        self.assertEqual(book_in(f"{WIDE} / halts {' '.join(names[:20])}")[1], tuple(names[:20]))
        self.book(f"{WIDE} / halts {' '.join(names[:20])} !u")
        self.book(f"{WIDE} / halts {' '.join(names[:20])} !u v")
        self.book(f"{WIDE} / halts {' '.join(names[:19])} !q")
        book_in(f"{WIDE} / halts {' '.join(names[4:])} / beside s t / badge x days 1")

    def test_besides(self):
        for good in ("a b", "h a", "a b c", "a c b h"):
            self.assertEqual(book_in(f"{EIGHT} / beside {good}")[2], (tuple(good.split(" ")),))
        for marked in (
            "!", "a !", "!/", "a !/", "!i", "!1", "!A", "a !a", "a b !a", "a b !b", "a b c !c", "a b c d !e", "a b c d !/e",
            "a b c d !f g", "a b / !a", "a b / !halts a", "a b / beside !a c", "a b / beside c !b", "a b / beside c !c",
            "a b / beside c !", "a b / beside c d !e1", "a b / beside c d e !a", "a b c d / beside e f g h / !beside a b",
            "a b c d / beside e f g / !beside h",
        ):
            self.book(f"{EIGHT} / beside {marked}")

    def test_how_many_besides(self):
        four = "beside a b / beside c d / beside e f / beside g h"
        self.assertEqual(len(book_in(f"{EIGHT} / {four}")[2]), 4)
        self.book(f"{EIGHT} / {four} / !beside a b")
        self.book(f"{EIGHT} / {four} / !")
        book_in(f"{EIGHT} / {four} / {SIX}")

    def test_beside_where_fewer_than_two_stand_beside_none(self):
        self.book("section a b 1 0 0 c / !beside a a")
        self.book("section a b 1 0 0 c / halts b / !beside a b")
        three = "section a b 1 0 0 c / section b b 1 0 0 c / section c b 1 0 0 c"
        self.book(three + " / beside a b / !beside c a")
        self.book(three + " / beside a b c / !beside a b")
        self.book(three + " / badge x days 1 / !beside a b")
        book_in(three + " / section d b 1 0 0 c / beside d b / beside a c")

    def test_badges(self):
        one = "section a b 1 0 0 c"
        for sort in ("length", "climb", "days", "sections"):
            for number in ("1", "10", "9999", "10000", "99999"):
                self.assertEqual(book_in(f"{one} / badge x {sort} {number}")[3], (("x", sort, int(number)),))
        for marked in (
            "!", "x !", "x days !", "!/", "!1", "!X", "!abcdefghi", "x !/", "x !day", "x !x", "x !Days", "x !1", "x !fall",
            "x days !0", "x days !01", "x days !100000", "x days !-1", "x days !days", "x days !/", "x days 1 !1",
            "x days 1 !y", "x days 1 !badge y days 1", "x days 1 / !", "x days 1 / !x", "x days 1 / badge !x climb 2",
            "x days 1 / badge y days 1 / badge !x climb 2", "x days 1 / !halts b", "x days 1 / !/",
        ):
            self.book(f"{one} / badge {marked}")

    def test_how_many_badges(self):
        one = "section a b 1 0 0 c"
        self.assertEqual(len(book_in(f"{one} / {SIX}")[3]), 6)
        self.book(f"{one} / {SIX} !/ badge g days 1")
        self.book(f"{one} / {SIX} !/")
        self.book(f"{one} / {SIX} !1")
        self.book(f"{one} / {SIX[:SIX.rindex(' /')]} / !")
        self.book(f"{one} / {SIX[:SIX.rindex(' /')]} / !/")

    def test_what_stands_between_parts(self):
        one = "section a b 1 0 0 c"
        for marked in ("/ !", "/ !/", "!halts b", "/ !half b", "/ !badges x days 1", "!//", "/ !closed", "/ !c 1 0 0 d"):
            self.book(f"{one} {marked}")


class WordsOfLegs(Refused):
    def test_words_that_lack(self):
        words = "north 0 3 east 5 2 / north 2 0".split(" ")
        for many in range(1, len(words) + 1):
            begin = " ".join(words[:many])
            if many in (3, 6, 10):
                self.assertIsInstance(legs_in(begin), tuple)
            else:
                self.refused(legs_in, begin, 1, many + 1)
                self.refused(thing_in, f"walk 0 a {begin}", 1, many + 4)

    def test_names(self):
        for word in ("A", "1", "a1", "abcdefghi", "a-b", "0", "//"):
            self.legs(f"!{word} 0 1")
            self.legs(f"a 0 1 !{word} 0 1")
            self.legs(f"a 0 1 / !{word} 0 1")

    def test_numbers(self):
        for i in range(8):
            for j in range(8):
                if i != j:
                    self.assertEqual(legs_in(f"a {i} {j}"), (("a", i, j),))
            self.legs(f"a {i} !{i}")
            self.legs(f"a 0 1 a {i} !{i} a 0 1")
        for word in ("8", "9", "10", "00", "01", "-1", "+1", "a", "/", "1.", "07"):
            self.legs(f"a !{word} 1")
            self.legs(f"a 5 !{word}")
            self.legs(f"a 5 !{word} a 0 1")
            self.legs(f"a 0 1 a !{word} 0")

    def test_rides(self):
        self.legs("!/")
        self.legs("!/ a 0 1")
        self.legs("a 0 1 / !")
        self.legs("a 0 1 / !/ a 0 1")
        self.legs("a 0 1 / b 0 1 / !")
        self.legs("a !/ 0 1")
        self.legs("a 0 !/ 1")
        self.legs("a 0 1 / !1 0")

    def test_a_section_called_ride(self):
        self.assertEqual(legs_in("ride 0 1 / ride 1 0"), (("ride", 0, 1), ("ride",), ("ride", 1, 0)))
        self.legs("ride !")
        self.legs("a 0 1 ride !a 0 1")

    def test_how_many(self):
        self.assertEqual(len(legs_in("a 0 1 " * 60)), 60)
        self.legs("a 0 1 " * 60 + "!a 0 1")
        self.legs("a 0 1 " * 60 + "!/ a 0 1")
        self.legs("a 0 1 " * 60 + "!1")
        self.assertEqual(len(legs_in("a 0 1 " * 58 + "/ a 0 1")), 60)
        self.legs("a 0 1 " * 58 + "/ !")
        self.legs("a 0 1 " * 58 + "/ a 0 1 !a 0 1")
        self.legs("a 0 1 " * 58 + "/ a 0 1 !/ a 0 1")

    def test_a_ride_as_the_sixtieth(self):
        self.legs("a 0 1 " * 59 + "!/ a 0 1")
        self.legs("a 0 1 " * 59 + "!/")
        self.legs("a 0 1 / " * 29 + "a 0 1 !/ a 0 1")
        self.assertEqual(len(legs_in("a 0 1 / " * 29 + "a 0 1 a 0 1")), 60)
        self.legs("a 0 1 / " * 29 + "a 0 1 a 0 1 !/ a 0 1")
        self.legs("a 0 1 / " * 29 + "a 0 1 a 0 1 !a 0 1")

    def test_sections_are_not_looked_for(self):
        self.assertEqual(legs_in("nowhere 7 0"), (("nowhere", 7, 0),))


class WordsOfThings(Refused):
    def test_the_first_word(self):
        for word in ("!books 5", "!Book", "!untell", "!north 0 1", "!section a b 1 0 0 c", "!5", "!/", "!ride"):
            self.thing(word)

    def test_days(self):
        for day in (0, 1, 10, 9998, 9999):
            self.assertEqual(thing_in(f"walk {day} a b 0 1")[1], day)
            self.assertEqual(thing_in(f"book {day} section a b 1 0 0 c")[1], day)
        for word in ("10000", "99999", "00", "01", "-1", "a", "/", "1.0"):
            self.thing(f"walk !{word} a b 0 1")
            self.thing(f"book !{word} section a b 1 0 0 c")
            self.thing(f"closed a !{word} 5")
            self.thing(f"closed a 0 !{word}")

    def test_words_that_lack(self):
        for marked in (
            "book !", "book 5 !", "closed !", "closed a !", "closed a 5 !", "walk !", "walk 5 !", "walk 5 a !",
            "walk 5 a b !", "walk 5 a b 0 !",
        ):
            self.thing(marked)

    def test_closings(self):
        self.assertEqual(thing_in("closed nowhere 7 7"), ("closed", "nowhere", 7, 7))
        self.assertEqual(thing_in("closed nowhere 7 8"), ("closed", "nowhere", 7, 8))
        for marked in (
            "closed a 7 !6", "closed a 9999 !9998", "closed a 1 !0", "closed a 10 !9", "closed !A 1 2", "closed !1 2 3",
            "closed a 1 2 !3", "closed a 1 2 !/", "closed a 1 2 !b", "closed a !b 1 2", "closed !/",
        ):
            self.thing(marked)

    def test_walkers(self):
        for word in ("A", "1", "a1", "abcdefghi", "/"):
            self.thing(f"walk 5 !{word} a 0 1")

    def test_names_that_are_words(self):
        self.assertEqual(thing_in("walk 5 walk walk 0 1"), ("walk", 5, "walk", (("walk", 0, 1),)))
        self.assertEqual(thing_in("closed book 1 2"), ("closed", "book", 1, 2))


if __name__ == "__main__":
    unittest.main()
