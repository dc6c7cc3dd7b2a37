"""Over the whole program: THINGS in whatever order, untold and told again, through texts and back, are answered alike."""

import copy
import itertools
import random
import unittest

from pathbook.badges import brought, gained, gained_on, held, lacking
from pathbook.calendar import break_of, closed_names, closures, counting, is_sound, reasons, seasons, walks_of
from pathbook.club import Club, merged
from pathbook.covered import came, covered, done, excused, finished, left, share, standing, sums, times
from pathbook.desk import Desk
from pathbook.errors import NotThere
from pathbook.lists import compared, left_together, meetings, part_on, pieces_together, ranked
from pathbook.plans import first_free, left_bits, plan_for, rounds, stuck, things_for
from pathbook.reading import things_in
from pathbook.showing import things_text
from tests.sample_things import NAMES, WALKERS, some_things

OF_THINGS = (covered, times, came, done, left, finished, excused, share, sums, gained, lacking, walks_of)
OF_A_CLUB = (left_bits, plan_for, things_for, rounds, stuck, first_free)
OF_TWO = (compared, part_on, meetings)
LEGS = (("north", 0, 1), ("ride",), ("old", 1, 0))
FEW_DAYS = (0, 3, 6, 9999)


def asked(ask, *arguments):
    """What is told, or how it is refused."""
    try:
        return ask(*arguments)
    except NotThere as why:
        return (type(why), vars(why))


def everything(club):
    """All that can be asked of a club, but its CHANGES."""
    things = club.things()
    told = [things, len(club), str(club), club.walkers(), club.idle(), club.lean().things(), seasons(things)]
    told += [(closures(things, name), [closed_names(things, day) for day in FEW_DAYS]) for name in NAMES]
    for day in FEW_DAYS:
        told += [asked(club.book_of, day), club.up_to(day).things(), asked(left_together, club, WALKERS, day)]
        told += [pieces_together(club, WALKERS[:2], day)] + [ranked(club, by, day) for by in ("pieces", "days", "length", "climb")]
        told += [ask(things, day, LEGS) for ask in (reasons, counting, is_sound, break_of)]
        for walker in WALKERS:
            told += [asked(ask, things, walker, day) for ask in OF_THINGS] + [asked(ask, club, walker, day) for ask in OF_A_CLUB]
            told += [asked(standing, things, walker, "north", day), asked(held, things, walker, "hill", day)]
            told += [gained_on(things, walker, "far", day), brought(things, walker, day, LEGS)]
        for first, other in itertools.combinations(WALKERS, 2):
            told += [ask(club, first, other, day) for ask in OF_TWO]
    return told


class InWhateverOrder(unittest.TestCase):
    def test_told_otherwise(self):
        chance = random.Random(1)
        for things in some_things(12):
            wanted = everything(Club(tuple(things)))
            mixed = list(things)
            chance.shuffle(mixed)
            self.assertEqual(everything(Club(tuple(mixed + things))), wanted)
            club = Club()
            for k in range(30):
                thing = chance.choice(things)
                if thing in club.things():
                    club.untell(thing)
                else:
                    club.tell(thing)
                if club.changes() and chance.random() < 0.2:
                    club.take_back()
            for thing in mixed:
                club.tell(thing)
            self.assertEqual(everything(club), wanted)
            self.assertEqual(everything(club.twin()), wanted)
            self.assertEqual(everything(merged((Club(tuple(mixed[:6])), Club(tuple(mixed[4:]))))), wanted)

    def test_through_texts_and_back(self):
        for things in some_things(6):
            club = Club(tuple(things))
            text = things_text(club.things())
            again = Club(things_in(text))
            self.assertEqual(again, club)
            self.assertEqual(things_text(again.things()), text)
            self.assertEqual(everything(again), everything(club))
            self.assertEqual(Desk(text).club(), club)
            parts = "\n".join(things_text(club.things(), only) for only in ("walk", "book", "closed"))
            self.assertEqual(Desk(parts).club(), club)

    def test_asked_again_the_same(self):
        for things in some_things(4):
            club = Club(tuple(things))
            before = (club.things(), club.changes())
            first = everything(club)
            self.assertEqual(everything(club), first)
            self.assertEqual((club.things(), club.changes()), before)

    def test_what_was_told_earlier_stays(self):
        for things in some_things(4):
            club = Club(tuple(things))
            told = everything(club)
            kept = copy.deepcopy(told)
            for thing in list(club.things()):
                club.untell(thing)
            everything(club)
            self.assertEqual(told, kept)

    def test_what_the_asker_does_changes_nothing(self):
        for things in some_things(4):
            club = Club(tuple(things))
            told = everything(club)
            kept = copy.deepcopy(told)
            for one in told:
                if isinstance(one, list):
                    one.clear()
            self.assertEqual(everything(club), kept)

    def test_what_is_handed_in_stays(self):
        for things in some_things(4):
            handed = tuple(things)
            kept = copy.deepcopy(handed)
            everything(Club(handed))
            self.assertEqual(handed, kept)


class NobodyWalks(unittest.TestCase):
    def test_whoever_nothing_is_told_of(self):
        for things in some_things(10):
            club = Club(tuple(things))
            self.assertEqual(club.covered("nobody"), [])
            self.assertEqual(club.sums("nobody"), (0, 0, 0, 0))
            self.assertEqual(gained(club.things(), "nobody"), [])
            self.assertEqual(club.done("nobody"), [])
            self.assertEqual(club.news("nobody"), ([], []))


class UpToADay(unittest.TestCase):
    def test_hangs_on_what_begins_by_then_alone(self):
        for things in some_things(8):
            club = Club(tuple(things))
            for day in FEW_DAYS:
                part = club.up_to(day)
                for walker in WALKERS:
                    for ask in OF_THINGS:
                        self.assertEqual(asked(ask, part.things(), walker, day), asked(ask, club.things(), walker, day))
                    for ask in OF_A_CLUB[:5]:
                        self.assertEqual(asked(ask, part, walker, day), asked(ask, club, walker, day))


if __name__ == "__main__":
    unittest.main()
