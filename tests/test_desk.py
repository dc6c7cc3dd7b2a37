"""The desk: each word by examples, words that can't stand, what is refused, and the desk's own club."""

import itertools
import unittest

from pathbook.badges import brought, gained, lacking
from pathbook.calendar import closures, reasons, seasons
from pathbook.club import Club
from pathbook.covered import came, share, standing
from pathbook.desk import Desk, all_said
from pathbook.errors import BadLine, BadText, NoBook, SecondBook, TooMany
from pathbook.lists import compared, meetings, part_on, ranked
from pathbook.plans import first_free, left_bits, plan_for, rounds, stuck, wanted
from pathbook.showing import book_text, legs_text, thing_text, things_text
from tests import naive_desk
from tests.sample_things import WALKERS, some_things
from tests.samples import ANYTHING, NO_KEYS
from tests.test_club_plans import CHAIN_BOOK, ROUNDS_BOOK, idle_walks

STRANGE = ANYTHING + NO_KEYS
NO_TEXTS = [thing for thing in STRANGE if not isinstance(thing, str)] + [5, b"things", ["things"], ("things",)]

# north: a b c, old beside it: a x c, east: c d
FIRST = (
    "section north a 10 1 2 b 20 3 4 c / section old a 9 9 9 x 9 9 9 c / section east c 5 7 0 d / halts a c"
    " / beside north old / badge far length 30 / badge often days 2"
)
SECOND = "section north c 21 4 3 b 11 2 1 a / halts b / badge all sections 1"
THINGS = f"""
book 5 {FIRST}
book 40 {SECOND}
closed east 20 30
closed east 31 35
closed east 37 37
walk 6 ann north 0 1
walk 8 ann north 1 2
walk 8 ben north 2 1 north 1 0
walk 9 ben east 0 1 / north 0 7
"""
LINES = tuple(line for line in THINGS.split("\n") if line)


class Told(unittest.TestCase):
    def setUp(self):
        self.desk = Desk(THINGS)

    def said(self, line, answer):
        self.assertEqual(self.desk.said(line), answer, line)

    def test_telling(self):
        desk = Desk()
        self.assertEqual(desk.said("walk 6 ann north 0 1"), "told")
        self.assertEqual(desk.said("walk 6 ann north 0 1"), "known")
        self.assertEqual(desk.said("  walk   6  ann north 0   1 "), "known")
        self.assertEqual(desk.said("closed north 3 9"), "told")
        self.assertEqual(desk.said("book 5 " + FIRST), "told")
        self.assertEqual(desk.said("book 5 " + FIRST), "known")
        self.assertEqual(desk.said("book 5 " + SECOND), "second book 5")
        self.assertEqual(desk.said("untell closed north 3 9"), "untold")
        self.assertEqual(desk.said("untell closed north 3 9"), "not told")
        self.assertEqual(desk.said("untell book 5 " + SECOND), "not told")
        self.assertEqual(len(desk), 2)

    def test_back(self):
        desk = Desk()
        self.assertEqual(desk.said("back"), "nothing")
        desk.said("closed north 3 9")
        desk.said("walk 6 ann north 0 1 / east 0 1")
        desk.said("closed north 3 9")
        desk.said("untell closed north 3 9")
        self.assertEqual(desk.said("back"), "untold closed north 3 9")
        self.assertEqual(desk.said("back"), "told walk 6 ann north 0 1 / east 0 1")
        self.assertEqual(desk.said("back"), "told closed north 3 9")
        self.assertEqual(desk.said("back"), "nothing")
        self.assertEqual(len(desk), 0)
        # What was told while it was made is taken back, too.
        self.said("back", "told " + LINES[-1])
        self.assertEqual(len(self.desk), len(LINES) - 1)

    def test_things_and_list(self):
        self.said("things", "2 books, 3 closings, 4 walks")
        self.said("list", ", ".join(LINES))
        self.said("list book", ", ".join(LINES[:2]))
        self.said("list closed", "closed east 20 30, closed east 31 35, closed east 37 37")
        self.said("list walk", ", ".join(LINES[5:]))
        empty = Desk()
        self.assertEqual(empty.said("things"), "0 books, 0 closings, 0 walks")
        for line in ("list", "list book", "list closed", "list walk", "walkers", "idle", "closures north"):
            self.assertEqual(empty.said(line), "none")

    def test_of_the_club(self):
        self.said("walkers", "ann ben")
        self.said("idle", "book 40 " + SECOND + ", closed east 20 30, closed east 31 35, closed east 37 37")
        self.said("seasons", "0 4 none, 5 39 book, 40 9999 book")
        self.assertEqual(Desk().said("seasons"), "0 9999 none")
        self.assertEqual(Desk("book 0 " + FIRST).said("seasons"), "0 9999 book")
        self.said("closures east", "20 35, 37 37")
        self.said("closures north", "none")
        self.said("guide", SECOND)
        self.said("guide 39", FIRST)
        self.said("guide 40", SECOND)
        self.said("guide 4", "no book 4")
        self.assertEqual(Desk().said("guide"), "no book 9999")

    def test_why(self):
        self.said("why 8 north 0 2 / east 0 1 / south 0 1 north 0 7", "counts, ride, counts, ride, section, marks")
        self.said("why 20 north 0 2 east 0 1", "counts, closed")
        self.said("why 8 north 0 2", "counts")
        self.said("why 8 north 0 1 east 0 1", "broken, broken")
        self.said("why 4 north 0 1 / east 0 1", "book, ride, book")

    def test_brings(self):
        self.said("brings walk 6 ann north 0 1", "8 far, 8 often, 40 all")
        self.said("brings walk 7 ann north 1 2", "7 far, 7 often")
        self.said("brings walk 7 zoe north 0 2", "7 far, 40 all")
        self.said("brings walk 4 zoe north 0 2", "none")
        self.assertEqual(len(self.desk), len(LINES))

    def test_of_a_walker(self):
        for line, answer in (
            ("covered ann", "north a b, north b c"), ("covered ann 6", "north a b"), ("covered ann 5", "none"), ("covered nobody", "none"),
            ("done ann", "north 0, north 1"), ("done ann 6", "north 0"), ("done ann 5", "none"),
            ("left ann 6", "north 1, old 0, old 1, east 0"), ("left ann 8", "east 0"), ("left ann 25", "none"), ("left ann", "none"),
            ("stuck ann 8", "east 0"), ("stuck ann", "none"), ("stuck nobody", "north 0, north 1"),
            ("finished ann 8", "north"), ("finished ben 9", "north east"), ("finished ann 6", "none"), ("excused ann 8", "old"),
            ("excused ann", "none"), ("sums ann", "2 30 4 6"), ("sums ann 6", "1 10 1 2"), ("sums nobody", "0 0 0 0"),
            ("sums ben", "2 35 13 4"), ("share ann 8", "30 53"), ("share ann", "32 32"), ("share ann 5", "0 53"),
            ("came ann", "6 1, 8 1"), ("came ann 7", "6 1"), ("came ann 5", "none"), ("came ben", "8 2, 9 1"),
            ("badges ann", "8 far, 8 often, 40 all"), ("badges ann 8", "8 far, 8 often"), ("badges ann 7", "none"),
            ("lacking ann 6", "far 20, often 1"), ("lacking ann", "all 0"), ("lacking nobody", "all 1"), ("lacking ann 9", "far 0, often 0"),
            ("rounds nobody 5", "none"), ("rounds nobody 20", "1"), ("rounds ann", "none"), ("rounds nobody", "none"), ("wanted ann 8", "d"),
            ("wanted nobody", "a c"), ("wanted ann", "none"), ("free nobody", "none"), ("free nobody 5", "20"), ("free ann 5", "none"),
        ):
            with self.subTest(line):
                self.said(line, answer)

    def test_plan_and_rounds(self):
        desk = Desk("book 5 " + book_text(ROUNDS_BOOK) + "\nbook 20 " + book_text(CHAIN_BOOK))
        club = desk.club()
        self.assertEqual(desk.said("plan ann 5"), legs_text(plan_for(club, "ann", 5)[0]))
        self.assertEqual(desk.said("rounds ann 5"), "1 1")
        self.assertEqual(desk.said("rounds ann"), "1 1 1")
        self.assertEqual(desk.said("stuck ann 5"), "none")
        self.assertEqual(desk.said("stuck ann"), "last 0")
        self.assertEqual(desk.said("wanted ann 5"), "m n")
        self.assertEqual(desk.said("wanted ann"), "d g k l s")
        self.assertEqual(desk.said("plan ann"), "one 0 1" if plan_for(club, "ann", 9999)[0][0][1] == 0 else "one 1 0")
        both = Desk("book 0 section x a 1 0 0 b / section y c 1 0 0 d / halts a b c d")
        self.assertEqual(both.said("plan ann"), ", ".join(legs_text(legs) for legs in plan_for(both.club(), "ann", 9999)))
        self.assertEqual(len(both.said("plan ann").split(", ")), 2)
        self.assertEqual(both.said("free ann 7"), "7")
        self.assertEqual(both.said("free ann"), "9999")
        self.assertEqual(both.said("rounds ann"), "2")

    def test_news(self):
        self.said("news ben", "got east c d")
        self.said("news ben 8", "none")
        self.said("news ann", "none")
        self.desk.said("untell walk 6 ann north 0 1")
        self.said("news ann", "lost north a b")
        self.desk.said("back")
        self.said("news ben", "got east c d")
        self.desk.said("book 8 section north a 1 0 0 y 1 0 0 b")
        self.said("news ann", "got north b y, lost north b c")
        self.assertEqual(Desk().said("news ann"), "none")

    def test_standing(self):
        for line, answer in (
            ("standing ann north 5", "open"), ("standing ann north 6", "begun"), ("standing ann north 8", "done"), ("standing ann old 8", "excused"),
            ("standing ann east 20", "closed"), ("standing ann north", "done"), ("standing ann old", "no section old"),
            ("standing ann nowhere 8", "no section nowhere"), ("standing ann north 4", "no book 4"), ("standing ann nowhere 4", "no book 4"),
        ):
            self.said(line, answer)

    def test_of_two_walkers(self):
        for line, answer in (
            ("both ann ben", "north a b, north b c"), ("both ann ben 6", "none"), ("apart ann ben", "none"), ("apart ann ben 6", "north a b"),
            ("apart ben ann", "east c d"), ("other ann ben", "east c d"), ("other ben ann 6", "north a b"), ("other ann ben 8", "none"),
            ("parts ann ben", "6"), ("parts ann ben 5", "none"), ("parts ann ann", "none"), ("meetings ann ben", "8"), ("meetings ann ben 7", "none"),
            ("meetings ann ann", "6 8"), ("meetings ann nobody", "none"),
        ):
            self.said(line, answer)

    def test_ranked(self):
        for line, answer in (
            ("ranked pieces", "3 ben, 2 ann"), ("ranked pieces 6", "1 ann, 0 ben"), ("ranked days", "2 ann, 2 ben"), ("ranked length", "35 ben, 30 ann"),
            ("ranked climb", "13 ben, 4 ann"), ("ranked climb 8", "6 ben, 4 ann"), ("ranked days 0", "0 ann, 0 ben"),
        ):
            self.said(line, answer)
        self.assertEqual(Desk().said("ranked pieces"), "none")

    def test_no_book(self):
        for word in ("done", "left", "stuck", "finished", "excused", "share", "lacking", "plan", "rounds", "wanted"):
            self.said(word + " ann 4", "no book 4")
            self.assertEqual(Desk().said(word + " ann"), "no book 9999")
        for word in ("covered", "news", "came", "badges", "free"):
            self.assertEqual(Desk().said(word + " ann"), "none")

    def test_names_that_are_words(self):
        desk = Desk("book 0 section walk book 5 0 0 closed / halts book closed / badge list days 1\nwalk 3 covered walk 0 1\nclosed ride 0 0")
        for line, answer in (
            ("covered covered", "walk book closed"), ("covered back", "none"), ("standing covered walk 3", "done"), ("standing walk walk", "open"),
            ("closures ride", "0 0"), ("closures closures", "none"), ("walkers", "covered"), ("badges covered 3", "3 list"), ("sums covered", "1 5 0 0"),
            ("both both both", "none"), ("left left", "walk 0"), ("walk 3 walk walk 1 0", "told"), ("untell walk 3 walk walk 1 0", "untold"),
            ("ranked days", "1 covered"), ("why 3 why 0 1 / walk 0 1", "section, ride, counts"), ("free free", "9999"), ("rounds plan", "1"),
        ):
            self.assertEqual(desk.said(line), answer, line)


class Refused(unittest.TestCase):
    def test_bad_words(self):
        desk = Desk(THINGS)
        for line, number in (
            ("", 1), ("   ", 1), ("thing", 1), ("Things", 1), ("things now", 2), ("back 5", 2), ("walkers ann", 2), ("idle 5", 2), ("seasons 5", 2),
            ("list books", 2), ("list book book", 3), ("list 5", 2), ("closures", 2), ("closures North", 2), ("closures north 5", 3), ("guide x", 2),
            ("guide 10000", 2), ("guide 05", 2), ("guide 5 5", 3), ("guide -1", 2), ("why", 2), ("why x", 2), ("why 5", 3), ("why 5 north", 4),
            ("why 5 north 0 0", 5), ("why 5 north 0 1 /", 7), ("why 5 / north 0 1", 3), ("why 5 north 0 8", 5), ("why north 0 1", 2), ("brings", 2),
            ("brings book", 2), ("brings closed north 0 1", 2), ("brings walk", 3), ("brings walk 5 ann north 0", 7), ("brings walk 5 ann", 5),
            ("untell", 2), ("untell things", 2), ("untell untell", 2), ("untell walk 5 ann", 5), ("untell closed north 9 3", 5), ("walk", 2),
            ("walk x", 2), ("walk 5 Ann", 3), ("walk 5 ann north 0 0", 6), ("closed north 9 3", 4), ("closed north 3 9 9", 5), ("book 5", 3),
            ("book 5 section", 4), ("book 10000", 2), ("covered", 2), ("covered Ann", 2), ("covered ann x", 3), ("covered ann 10000", 3),
            ("covered ann 5 5", 4), ("covered 5", 2), ("sums ann 5 3", 4), ("standing", 2), ("standing ann", 3), ("standing ann 5", 3),
            ("standing ann north x", 4), ("standing ann north 5 5", 5), ("both", 2), ("both ann", 3), ("both ann 5", 3), ("both ann ben x", 4),
            ("both ann ben 5 5", 5), ("meetings ann ben cid", 4), ("ranked", 2), ("ranked fall", 2), ("ranked 5", 2), ("ranked days x", 3),
            ("ranked days 5 5", 4), ("things\n", 1), ("\n", 1), ("things \n", 2), ("\nthings", 1), ("covered ann\n", 2), ("covered ann 5\n", 3),
            ("covered\nann", 1), ("walk 5 ann north 0 1\n", 6), ("walk 5 ann north 0 1 \n", 7), ("list book\nlist", 2),
            ("closed north 3 9\nclosed north 4 9", 4), ("a" * 12000, 1), ("covered " + "a" * 9, 2), ("guide " + "9" * 5000, 2), ("told", 1),
            ("none", 1), ("bad word 1", 1), ("covered ann " + "1" * 4400, 3), ("tell walk 5 ann north 0 1", 1),
        ):
            before = (desk.club().things(), desk.club().changes())
            self.assertEqual(desk.said(line), f"bad word {number}", line[:50])
            self.assertEqual((desk.club().things(), desk.club().changes()), before)

    def test_mutated_lines(self):
        desk = Desk(THINGS)
        pool = "ann north 0 5 9999 10000 walk book list covered pieces days / A 01 section".split() + ["a\n"]
        lines = (
            "things", "back", "list", "list closed", "guide 5", "closures east", "covered ann 5", "stuck ann", "standing ann north 5", "both ann ben 5",
            "parts ann ben", "ranked days 5", "why 5 north 0 1 / east 0 1", "brings walk 5 ann north 0 1", "untell closed north 3 9", "closed north 3 9",
            "walk 5 ann north 0 1 / north 0 1", "untell walk 5 ann north 0 1", "book 5 section a b 1 0 0 c / halts b", "free ann 5", "seasons",
            "untell book 5 section a b 1 0 0 c",
        )
        refused = 0
        for line in lines:
            words = line.split(" ")
            for k in range(len(words) + 1):
                for changed in (
                    [words[:k], words[:k] + words[k + 1:]] + [words[:k] + [word] + words[k:] for word in pool]
                    + [words[:k] + [word] + words[k + 1:] for word in pool]
                ):
                    number = naive_desk.bad_word(changed)
                    answer = desk.said(" ".join(changed))
                    if number is None:
                        self.assertFalse(answer.startswith("bad word"), changed)
                    else:
                        refused += 1
                        self.assertEqual(answer, f"bad word {number}", changed)
        self.assertGreater(refused, 1000)

    def test_too_many(self):
        things = "book 0 " + book_text(ROUNDS_BOOK) + "\n" + things_text(idle_walks(98))
        desk = Desk(things)
        self.assertEqual(len(desk), 99)
        self.assertEqual(desk.said("closed north 3 9"), "too many")
        self.assertEqual(desk.said("rounds ann"), "too many")
        self.assertEqual(desk.said("stuck ann"), "too many")
        self.assertEqual(desk.said("book 0 " + FIRST), "second book 0")
        self.assertEqual(desk.said("book 1 " + FIRST), "too many")
        self.assertEqual(desk.said("brings walk 5 ann ring 0 3"), "none")
        self.assertEqual(len(desk), 99)
        self.assertEqual(desk.said("walk 0 zoe nowhere 0 1"), "known")
        self.assertEqual(desk.said("untell walk 0 zoe nowhere 0 1"), "untold")
        self.assertEqual(desk.said("closed north 3 9"), "told")

    def test_bad_line(self):
        desk = Desk(THINGS)
        for line in NO_TEXTS:
            with self.assertRaises(BadLine):
                desk.said(line)
            with self.assertRaises(BadLine):
                all_said(["things", line])
        self.assertEqual(desk.club(), Desk(THINGS).club())

    def test_made_of_what_is_refused(self):
        for things in NO_TEXTS:
            with self.assertRaises(BadText) as caught:
                Desk(things)
            self.assertEqual((caught.exception.line, caught.exception.word), (0, 0))
            with self.assertRaises(BadText):
                all_said([], things)
        for things, line, word in (("walk", 1, 2), ("\nclosed north 3 9 9", 2, 5), ("things", 1, 1), (THINGS + "x", len(LINES) + 2, 1)):
            with self.assertRaises(BadText) as caught:
                Desk(things)
            self.assertEqual((caught.exception.line, caught.exception.word), (line, word))
        with self.assertRaises(SecondBook) as caught:
            Desk(f"book 5 {FIRST}\nbook 5 {SECOND}")
        self.assertEqual(caught.exception.day, 5)
        with self.assertRaises(BadText):
            Desk(f"book 5 {FIRST}\nbook 5 {SECOND}\nwalk")
        with self.assertRaises(TooMany) as caught:
            Desk(things_text(idle_walks(99)) + "\nclosed north 3 9")
        self.assertEqual(caught.exception.most, 99)
        with self.assertRaises(TooMany):
            all_said(["things"], things_text(idle_walks(99)) + "\nclosed north 3 9")


class OwnClub(unittest.TestCase):
    def test_made(self):
        self.assertEqual(len(Desk()), 0)
        self.assertEqual(len(Desk("")), 0)
        self.assertEqual(len(Desk(things="\n  \n")), 0)
        desk = Desk(THINGS + THINGS)
        self.assertEqual(len(desk), len(LINES))
        self.assertEqual(desk.club(), Desk(THINGS).club())
        self.assertEqual(len(desk.club().changes()), len(LINES))

    def test_club_goes_on_by_itself(self):
        desk = Desk(THINGS)
        club = desk.club()
        self.assertIs(type(club), Club)
        self.assertIsNot(desk.club(), club)
        before = (club.things(), club.changes())
        desk.said("back")
        desk.said("closed north 3 9")
        self.assertEqual((club.things(), club.changes()), before)
        later = desk.club()
        club.take_back()
        club.tell(("closed", "old", 0, 0))
        self.assertEqual((desk.club().things(), desk.club().changes()), (later.things(), later.changes()))
        self.assertEqual(later.changes()[-1], ("told", ("closed", "north", 3, 9)))

    def test_desks_have_nothing_in_common(self):
        one, other = Desk(THINGS), Desk(THINGS)
        one.said("closed north 3 9")
        self.assertEqual(len(other), len(LINES))
        self.assertEqual(len(one), len(LINES) + 1)

    def test_all_said(self):
        lines = ["things", "walk 6 ann north 0 1", "walk 6 ann north 0 1", "things", "x", "back", "back"]
        wanted_answers = [
            "0 books, 0 closings, 0 walks", "told", "known", "0 books, 0 closings, 1 walks", "bad word 1", "told walk 6 ann north 0 1", "nothing",
        ]
        self.assertEqual(all_said(lines), wanted_answers)
        self.assertEqual(all_said(lines), wanted_answers)
        self.assertEqual(len(lines), 7)
        self.assertEqual(all_said([]), [])
        self.assertEqual(all_said([], THINGS), [])
        self.assertEqual(all_said(things=THINGS, lines=["covered ann"]), ["north a b, north b c"])
        self.assertEqual(all_said(["sums ann"], THINGS), ["2 30 4 6"])
        self.assertEqual(Desk().said(line="things"), "0 books, 0 closings, 0 walks")


def joined(rows):
    return ", ".join(" ".join(str(word) for word in row) for row in rows) or "none"


def single(words):
    return " ".join(str(word) for word in words) or "none"


def answers(club, walker, other, day):
    """Each line with a WALKER and a DAY, and a way to what it should be answered."""
    things = club.things()
    return {
        f"covered {walker} {day}": lambda: joined(club.covered(walker, day)),
        f"done {walker} {day}": lambda: joined(club.done(walker, day)),
        f"left {walker} {day}": lambda: joined(club.left(walker, day)),
        f"stuck {walker} {day}": lambda: joined(stuck(club, walker, day)),
        f"finished {walker} {day}": lambda: single(club.finished(walker, day)),
        f"excused {walker} {day}": lambda: single(club.excused(walker, day)),
        f"sums {walker} {day}": lambda: single(club.sums(walker, day)),
        f"share {walker} {day}": lambda: single(share(things, walker, day)),
        f"news {walker} {day}": lambda: joined([
            (word,) + piece for word, pieces in zip(("got", "lost"), club.news(walker, day)) for piece in pieces
        ]),
        f"came {walker} {day}": lambda: joined([(one, len(pieces)) for one, pieces in came(things, walker, day)]),
        f"badges {walker} {day}": lambda: joined(gained(things, walker, day)),
        f"lacking {walker} {day}": lambda: joined(lacking(things, walker, day)),
        f"plan {walker} {day}": lambda: ", ".join(legs_text(legs) for legs in plan_for(club, walker, day)) or "none",
        f"rounds {walker} {day}": lambda: single([len(one) for one in rounds(club, walker, day)]),
        f"wanted {walker} {day}": lambda: single(sorted({
            mark for bit in left_bits(club, walker, day) for mark in wanted(club.book_of(day), bit)
        })),
        f"free {walker} {day}": lambda: single([one for one in [first_free(club, walker, day)] if one is not None]),
        f"standing {walker} north {day}": lambda: standing(things, walker, "north", day),
        f"both {walker} {other} {day}": lambda: joined(compared(club, walker, other, day)[0]),
        f"apart {walker} {other} {day}": lambda: joined(compared(club, walker, other, day)[1]),
        f"other {walker} {other} {day}": lambda: joined(compared(club, walker, other, day)[2]),
        f"parts {walker} {other} {day}": lambda: single([one for one in [part_on(club, walker, other, day)] if one is not None]),
        f"meetings {walker} {other} {day}": lambda: single(meetings(club, walker, other, day)),
        f"ranked pieces {day}": lambda: joined(ranked(club, "pieces", day)),
        f"ranked climb {day}": lambda: joined(ranked(club, "climb", day)),
        f"guide {day}": lambda: book_text(club.book_of(day)),
    }


class ByChance(unittest.TestCase):
    def asked(self, desk, line, ask):
        try:
            answer = ask()
        except NoBook as why:
            answer = f"no book {why.day}"
        except LookupError as why:
            answer = f"no section {why.name}"
        self.assertEqual(desk.said(line), answer, line)
        if line.endswith(" 9999"):
            self.assertEqual(desk.said(line[:-5]), answer, line)

    def test_as_the_functions_tell(self):
        for things in some_things(12):
            desk = Desk(things_text(things))
            club = desk.club()
            self.assertEqual(club, Club(tuple(things)))
            for walker, other, day in itertools.product(WALKERS[:2], WALKERS[1:], (0, 3, 9999)):
                for line, ask in answers(club, walker, other, day).items():
                    self.asked(desk, line, ask)
            for thing in things:
                if thing[0] == "walk":
                    self.asked(desk, "brings " + thing_text(thing), lambda: joined(brought(club.things(), thing[2], thing[1], thing[3])))
                    self.asked(desk, f"why {thing[1]} {legs_text(thing[3])}", lambda: ", ".join(
                        reason or "counts" for reason in reasons(club.things(), thing[1], thing[3])
                    ))
                self.assertEqual(desk.said(thing_text(thing)), "known")
            self.asked(desk, "seasons", lambda: joined([
                (first, last, "none" if book is None else "book") for first, last, book in seasons(club.things())
            ]))
            for name in ("north", "old"):
                self.asked(desk, "closures " + name, lambda: joined(closures(club.things(), name)))
            self.asked(desk, "list", lambda: ", ".join(thing_text(thing) for thing in club.things()))
            self.asked(desk, "idle", lambda: ", ".join(thing_text(thing) for thing in club.idle()) or "none")
            self.asked(desk, "walkers", lambda: " ".join(club.walkers()) or "none")
            self.asked(desk, "things", lambda: str(club))
            self.assertEqual(desk.club().changes(), club.changes())


if __name__ == "__main__":
    unittest.main()
