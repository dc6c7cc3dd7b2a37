"""BITS and PLANS of a BOOK: by examples, at the bounds, and each plan walked by the test itself."""

import random
import unittest

from pathbook.errors import BadPlan
from pathbook.legs import passed, shortened, sums_of, turned
from pathbook.plans import bits, gentle, is_clear, need_plan, odd_marks, plan, walks_needed, wanted
from tests import naive_plans
from tests.sample_things import random_book
from tests.samples import ANYTHING, NO_KEYS, letters

RIDE = ("ride",)
STRANGE = ANYTHING + NO_KEYS


def section(name, marks, stretch=(1, 0, 0)):
    marks = tuple(marks.split())
    return (name, marks, (stretch,) * (len(marks) - 1))


def all_pairs(book):
    return tuple((name, k) for name, marks, stretches in book[0] for k in range(len(stretches)))


def book_of(halts, *sections):
    return (tuple(sections), tuple(halts.split()), (), ())


# A path a b c d, a ring e f g, a star around m.
PATH = section("path", "a b c d")
RING = section("ring", "e f g e")
STAR = (section("one", "m n"), section("two", "o m p"))
BOOK = book_of("a d f n o", PATH, RING, *STAR)

# All 56 STRETCHES hang on the MARK z, and can be walked in one walk.
FLOWER = book_of("z", *[(name, ("z",) + letters(6, name) + ("z",), ((1, 0, 0),) * 7) for name in letters(8)])
# Two rings in each SECTION, and a STRETCH between that isn't asked for.
TWO_RINGS = tuple(
    (name, tuple(name + sign for sign in "abcadefd"), ((1, 0, 0),) * 7) for name in letters(8)
)
RINGS = (TWO_RINGS, tuple(sorted(name + sign for name in letters(8) for sign in "ae")), (), ())
RING_PAIRS = tuple((name, k) for name in letters(8) for k in (0, 1, 2, 4, 5, 6))
# Twenty spokes around z: of each SECTION five, the STRETCHES between their ends aren't asked for.
SPOKES = tuple(
    (name, (name + "a", "z", name + "b", name + "c", "z", name + "d", name + "e", "z"), ((1, 0, 0),) * 7) for name in letters(4)
)
TWENTY = (SPOKES, tuple(sorted(name + sign for name in letters(4) for sign in "abcde")), (), ())
SPOKE_PAIRS = tuple((name, k) for name in letters(4) for k in (0, 1, 3, 4, 6))


class Bits(unittest.TestCase):
    def test_bits(self):
        path = tuple(("path", k) for k in range(3))
        ring = tuple(("ring", k) for k in range(3))
        star = (("one", 0), ("two", 0), ("two", 1))
        self.assertEqual(bits(BOOK, all_pairs(BOOK)), [path, ring, star])
        self.assertEqual(bits(BOOK, all_pairs(BOOK), None), [path, ring, star])
        # p of the star is odd, and no HALT.
        self.assertEqual(bits(BOOK, all_pairs(BOOK), True), [path, ring])
        self.assertEqual(bits(clear=False, pairs=all_pairs(BOOK), book=BOOK), [star])
        self.assertEqual(bits(BOOK, ()), [])
        self.assertEqual(bits(BOOK, (), True), [])

    def test_in_the_order_of_the_book(self):
        mixed = (("two", 1), ("path", 2), ("one", 0), ("ring", 1), ("path", 0))
        wanted_bits = [(("path", 0),), (("path", 2),), (("ring", 1),), (("one", 0), ("two", 1))]
        self.assertEqual(bits(BOOK, mixed), wanted_bits)
        self.assertEqual(bits(BOOK, mixed[::-1]), wanted_bits)
        for bit in bits(BOOK, mixed):
            self.assertIs(type(bit), tuple)
        # Later STRETCHES may bring together what stood apart.
        book = book_of("a", section("x", "a b"), section("y", "c d"), section("z", "e f"), section("w", "d q b"))
        self.assertEqual(bits(book, all_pairs(book)), [(("x", 0), ("y", 0), ("w", 0), ("w", 1)), (("z", 0),)])

    def test_marks_of_one_name_are_one_place(self):
        book = book_of("", section("x", "a b"), section("y", "b c"), section("z", "a b"))
        self.assertEqual(bits(book, all_pairs(book)), [all_pairs(book)])
        self.assertEqual(odd_marks(book, all_pairs(book)), ["b", "c"])
        self.assertEqual(odd_marks(book, (("z", 0), ("x", 0))), [])

    def test_odd_marks(self):
        self.assertEqual(odd_marks(BOOK, all_pairs(BOOK)), ["a", "d", "m", "n", "o", "p"])
        self.assertEqual(odd_marks(BOOK, (("ring", 0), ("ring", 2))), ["f", "g"])
        self.assertEqual(odd_marks(pairs=(), book=BOOK), [])
        # A MARK that comes again in its SECTION.
        book = book_of("a", section("x", "b e a b f"))
        self.assertEqual(odd_marks(book, all_pairs(book)), ["b", "f"])

    def test_is_clear(self):
        ring = (("x", 0), ("x", 1), ("x", 2))
        for halts, clear in (("", False), ("e", True), ("g", True), ("e f g", True), ("z", False)):
            self.assertIs(is_clear(book_of(halts, section("x", "e f g e"), section("y", "z y")), ring), clear)
        for halts, clear in (("", False), ("a", False), ("a b", True), ("b", False), ("a b c", True), ("a c", False)):
            self.assertIs(is_clear(bit=(("x", 0),), book=book_of(halts, section("x", "a b c"))), clear)
        # A HALT in the midst doesn't help.
        self.assertIs(is_clear(book_of("b", section("x", "a b c")), (("x", 0), ("x", 1))), False)

    def test_wanted(self):
        ring = (("x", 0), ("x", 1), ("x", 2))
        for halts, marks in (("", ["e"]), ("e", []), ("g", []), ("y", ["e"])):
            self.assertEqual(wanted(book_of(halts, section("x", "g f e g"), section("y", "z y")), ring), marks)
        for halts, marks in (("", ["a", "c"]), ("a", ["c"]), ("b", ["a", "c"]), ("a c", []), ("c", ["a"])):
            self.assertEqual(wanted(bit=(("x", 0), ("x", 1)), book=book_of(halts, section("x", "c b a"))), marks)

    def test_by_chance(self):
        chance = random.Random(1)
        for book, pairs in some_pairs(chance, 400):
            found = naive_plans.bits(book, pairs)
            self.assertEqual(bits(book, pairs), found)
            self.assertEqual(bits(book, pairs, True), [bit for bit in found if naive_plans.is_clear(book, bit)])
            self.assertEqual(bits(book, pairs, False), [bit for bit in found if not naive_plans.is_clear(book, bit)])
            self.assertEqual(odd_marks(book, pairs), naive_plans.odd_marks(book, pairs))
            self.assertEqual(walks_needed(book, pairs), naive_plans.walks_needed(book, pairs))
            for bit in found:
                self.assertIs(is_clear(book, bit), naive_plans.is_clear(book, bit))
                self.assertEqual(wanted(book, bit), naive_plans.wanted(book, bit))
                more = tuple(sorted(set(book[1] + tuple(wanted(book, bit)))))
                self.assertIs(is_clear((book[0], more) + book[2:], bit), True)

    def test_new_lists(self):
        bits(BOOK, all_pairs(BOOK)).clear()
        odd_marks(BOOK, all_pairs(BOOK)).clear()
        self.assertEqual(len(bits(BOOK, all_pairs(BOOK))), 3)
        self.assertEqual(len(odd_marks(BOOK, all_pairs(BOOK))), 6)


def some_pairs(chance, many):
    """BOOKS with some of their STRETCHES, in an order by chance."""
    for k in range(many):
        book = random_book(chance, chance.choice((0.3, 0.6, 0.9, 1)), pool=letters(chance.choice((4, 6, 9))))
        pairs = all_pairs(book)
        yield book, tuple(chance.sample(pairs, chance.choice((len(pairs), chance.randint(0, len(pairs))))))


class Plans(unittest.TestCase):
    def walked(self, book, pairs, found):
        """Walk a PLAN, STRETCH by STRETCH."""
        self.assertIs(type(found), tuple)
        clear = [pair for bit in naive_plans.bits(book, pairs) if naive_plans.is_clear(book, bit) for pair in bit]
        gone = []
        marks = {one[0]: one[1] for one in book[0]}
        for legs in found:
            self.assertTrue(1 <= len(legs) <= 60)
            at = marks[legs[0][0]][legs[0][1]]
            self.assertIn(at, book[1])
            for name, i, j in legs:
                self.assertEqual(marks[name][i], at)
                gone.extend((name, k) for k in range(min(i, j), max(i, j)))
                at = marks[name][j]
            self.assertIn(at, book[1])
        self.assertEqual(sorted(gone), sorted(clear))
        self.assertEqual(len(found), naive_plans.walks_needed(book, pairs))
        self.assertIsNone(need_plan(book, pairs, found))

    def both(self, book, pairs):
        short, small = plan(book, pairs), plan(book, pairs, False)
        self.walked(book, pairs, short)
        self.walked(book, pairs, small)
        self.assertEqual(plan(short=True, pairs=pairs, book=book), short)
        for legs in short:
            self.assertEqual(shortened(legs), legs)
        for legs in small:
            self.assertEqual({abs(i - j) for name, i, j in legs}, {1})
        return short

    def test_examples(self):
        found = self.both(BOOK, all_pairs(BOOK))
        self.assertEqual(len(found), 2)
        self.assertIn(found[0], ((("path", 0, 3),), (("path", 3, 0),)))
        self.assertEqual(plan(BOOK, ()), ())
        self.assertEqual(plan(BOOK, (("one", 0), ("two", 1))), ())
        self.assertEqual(walks_needed(BOOK, ()), 0)
        self.assertEqual(walks_needed(pairs=all_pairs(BOOK), book=BOOK), 2)

    def test_a_ring_from_a_halt_within(self):
        book = book_of("f", section("x", "e f g e"))
        found = self.both(book, all_pairs(book))
        self.assertEqual(len(found), 1)
        self.assertEqual(len(plan(book, all_pairs(book), False)[0]), 3)

    def test_parallel_stretches(self):
        book = book_of("a", section("x", "a b"), section("y", "b a"), section("z", "a b"), section("w", "a b"))
        self.assertEqual(len(self.both(book, all_pairs(book))), 1)
        both_ends = (book[0], ("a", "b"), (), ())
        self.assertEqual(len(self.both(both_ends, all_pairs(book)[:3])), 1)

    def test_a_ring_hung_on_a_path(self):
        book = book_of("a c", section("x", "a b c"), section("y", "b d e b"), section("z", "d f g d"))
        self.assertEqual(len(self.both(book, all_pairs(book))), 1)

    def test_fifty_six_stretches_in_one_walk(self):
        pairs = all_pairs(FLOWER)
        self.assertEqual(len(pairs), 56)
        self.both(FLOWER, pairs)
        self.assertEqual([len(legs) for legs in plan(FLOWER, pairs, False)], [56])
        self.assertEqual(len(plan(FLOWER, pairs[::-1])), 1)
        self.assertEqual(plan((FLOWER[0], (), (), ()), pairs), ())

    def test_sixteen_rings(self):
        self.assertEqual(len(bits(RINGS, RING_PAIRS)), 16)
        self.assertEqual(walks_needed(RINGS, RING_PAIRS), 16)
        self.assertEqual(len(self.both(RINGS, RING_PAIRS)), 16)
        # With the STRETCHES between two rings they are eight, from ring to ring: d is odd, and no HALT.
        self.assertEqual([len(bit) for bit in bits(RINGS, all_pairs(RINGS), False)], [7] * 8)
        self.assertEqual(self.both(RINGS, all_pairs(RINGS)), ())

    def test_twenty_halts(self):
        self.assertEqual(len(TWENTY[1]), 20)
        self.assertEqual(odd_marks(TWENTY, SPOKE_PAIRS), list(TWENTY[1]))
        self.assertEqual(len(self.both(TWENTY, SPOKE_PAIRS)), 10)
        for halt in TWENTY[1]:
            fewer = (TWENTY[0], tuple(one for one in TWENTY[1] if one != halt), (), ())
            self.assertEqual(wanted(fewer, SPOKE_PAIRS), [halt])
            self.assertEqual(plan(fewer, SPOKE_PAIRS), ())

    def test_by_chance(self):
        chance = random.Random(2)
        many = set()
        for book, pairs in some_pairs(chance, 600):
            many.add(len(self.both(book, pairs)))
        self.assertTrue({0, 1, 2, 3} <= many)

    def test_great_ones_by_chance(self):
        chance = random.Random(3)
        for k in range(40):
            pool = letters(chance.choice((5, 8, 12)))
            sections = []
            while len(sections) < 8:
                marks = tuple(chance.choice(pool) for n in range(8))
                ways = {frozenset(pair) for pair in zip(marks, marks[1:])}
                if len(ways) == 7 and all(len(way) == 2 for way in ways):
                    sections.append((letters(8)[len(sections)], marks, ((1, 0, 0),) * 7))
            book = (tuple(sections), tuple(sorted(pool)), (), ())
            self.both(book, all_pairs(book))

    def test_asked_again_the_same(self):
        for pairs in (all_pairs(BOOK), all_pairs(BOOK)[::-1]):
            self.assertEqual(plan(BOOK, pairs), plan(BOOK, pairs))


class NeedPlan(unittest.TestCase):
    # path: a b c d, ring: e f g e; HALTS a d f n o
    pairs = all_pairs(BOOK)
    path = (("path", 0, 3),)
    ring = (("ring", 1, 3), ("ring", 0, 1))

    def wrong(self, thing, number, book=BOOK, pairs=None):
        with self.assertRaises(BadPlan, msg=thing) as caught:
            need_plan(book, self.pairs if pairs is None else pairs, thing)
        self.assertEqual(caught.exception.number, number, thing)

    def test_plans(self):
        for thing in (
            (self.path, self.ring), (self.ring, self.path), (turned(self.path), turned(self.ring)),
            ((("path", 0, 1), ("path", 1, 3)), self.ring), (plan(BOOK, self.pairs)[::-1]),
        ):
            self.assertIsNone(need_plan(BOOK, self.pairs, thing))
        self.assertIsNone(need_plan(thing=(), pairs=(), book=BOOK))
        self.assertIsNone(need_plan(BOOK, (("one", 0), ("two", 0), ("two", 1)), ()))

    def test_no_tuple(self):
        for thing in STRANGE + ([self.path, self.ring], {}, "path 0 3", 5):
            if not isinstance(thing, tuple):
                self.wrong(thing, -1)

    def test_no_legs(self):
        for legs in STRANGE + (
            "path 0 3", [("path", 0, 3)], ("path", 0, 3), (("path", 0, 0),), (("path", 0, 8),), (("path", True, 3),), (RIDE,),
            (("path", 0, 3),) * 61,
        ):
            self.wrong((legs, self.ring), 0)
            self.wrong((self.path, legs), 1)
            self.wrong((self.path, legs, None), 1)

    def test_rides(self):
        self.wrong((self.path + (RIDE,) + self.ring,), 0)
        self.wrong((self.ring, (("path", 0, 1), RIDE, ("path", 1, 3))), 1)

    def test_no_section_no_mark(self):
        self.wrong((self.path, (("nowhere", 0, 1),)), 1)
        self.wrong(((("path", 0, 4),), self.ring), 0)
        self.wrong(((("path", 0, 3), ("nowhere", 0, 1)), self.ring), 0)
        self.wrong(((("ride", 0, 1),), self.ring), 0)

    def test_not_joined(self):
        self.wrong((self.path, (("ring", 1, 2), ("ring", 0, 1))), 1)
        self.wrong(((("path", 0, 1), ("path", 2, 3)), self.ring), 0)

    def test_no_halts(self):
        # A ring begun at a MARK that is no HALT, a path that ends within.
        self.wrong((self.path, (("ring", 0, 3),)), 1)
        self.wrong(((("path", 0, 2),), (("path", 2, 3),), self.ring), 0)
        self.wrong(((("path", 1, 3),), self.ring), 0)
        self.wrong(((("path", 0, 2),), self.ring), 0)

    def test_other_stretches(self):
        # Those of a BIT that isn't CLEAR, those that weren't asked for.
        self.wrong((self.path, self.ring, (("one", 1, 0), ("two", 1, 0))), 2)
        self.wrong(((("one", 1, 0), ("two", 1, 0)), self.path, self.ring), 0)
        self.wrong((self.path, self.ring), 1, pairs=self.pairs[:3])
        self.wrong((self.path,), 0, pairs=self.pairs[3:])

    def test_passed_twice(self):
        self.wrong((self.path, self.path, self.ring), 1)
        self.wrong((self.path + (("path", 3, 0),) + (("path", 0, 3),), self.ring), 0)
        self.wrong((self.path, self.ring + self.ring), 1)
        self.wrong((self.path, self.ring, turned(self.ring)), 2)

    def test_not_all_passed(self):
        self.wrong((), 0)
        self.wrong((self.path,), 1)
        self.wrong((self.ring,), 1)

    def test_more_walks_than_need_be(self):
        book = book_of("a b c", section("x", "a b c"))
        self.assertIsNone(need_plan(book, all_pairs(book), ((("x", 0, 2),),)))
        self.wrong(((("x", 0, 1),), (("x", 1, 2),)), 2, book, all_pairs(book))
        self.wrong(((("x", 0, 1),), (("x", 2, 1),)), 2, book, all_pairs(book))
        ring = book_of("a b", section("x", "a b c a"))
        self.wrong(((("x", 0, 1),), (("x", 1, 3),)), 2, ring, all_pairs(ring))

    def test_the_first_wrong_walk(self):
        self.wrong((self.path, None, self.path), 1)
        self.wrong((None, self.path), 0)
        self.wrong((self.path, self.ring, None), 2)

    def test_by_chance_against_a_slower_look(self):
        chance = random.Random(5)
        numbers = set()
        for book, pairs in some_pairs(chance, 400):
            found = list(plan(book, pairs, chance.choice((True, False))))
            for k in range(6):
                thing = self.spoilt(chance, book, list(found))
                number = naive_plans.wrong_at(book, pairs, thing)
                numbers.add(number)
                if number is None:
                    self.assertIsNone(need_plan(book, pairs, thing))
                else:
                    self.wrong(thing, number, book, pairs)
        self.assertTrue({None, 0, 1, 2} <= numbers)

    def spoilt(self, chance, book, walks):
        """A tuple of walks, with something otherwise."""
        for n in range(chance.randint(0, 2)):
            at = chance.randint(0, len(walks))
            how = chance.random()
            name, marks, stretches = chance.choice(book[0])
            i, j = chance.sample(range(len(marks)), 2)
            if how < 0.2 or at == len(walks):
                walks.insert(at, ((name, i, j),))
            elif how < 0.4:
                walks[at] = walks[at] + ((name, i, j),)
            elif how < 0.5:
                del walks[at]
            elif how < 0.7:
                walks[at] = turned(walks[at])
            elif how < 0.8:
                walks[at] = walks[at][:-1]
            elif how < 0.9:
                walks[at:at + 1] = [walks[at][:1], walks[at][1:]]
            else:
                chance.shuffle(walks)
        return tuple(walks)


class Gentle(unittest.TestCase):
    def test_examples(self):
        up, down, even = section("up", "a b c", (1, 5, 2)), section("down", "c d", (1, 2, 5)), section("even", "d e", (1, 3, 3))
        book = book_of("a c d e", up, down, even)
        for legs, wanted_legs in (
            ((("up", 0, 2),), (("up", 2, 0),)), ((("up", 2, 0),), (("up", 2, 0),)), ((("down", 0, 1),), (("down", 0, 1),)),
            ((("down", 1, 0),), (("down", 0, 1),)), ((("even", 0, 1),), (("even", 0, 1),)), ((("even", 1, 0),), (("even", 1, 0),)),
            ((("up", 1, 2), ("down", 0, 1)), (("up", 1, 2), ("down", 0, 1))),
            ((("up", 0, 2), ("down", 0, 1), ("even", 0, 1)), (("even", 1, 0), ("down", 1, 0), ("up", 2, 0))),
        ):
            self.assertEqual(gentle(book, (legs,)), (wanted_legs,))
        both = ((("up", 0, 2),), (("down", 0, 1),), (("even", 0, 1),))
        self.assertEqual(gentle(plan=both, book=book), ((("up", 2, 0),), (("down", 0, 1),), (("even", 0, 1),)))
        self.assertEqual(gentle(book, ()), ())

    def test_by_chance(self):
        chance = random.Random(6)
        about = 0
        for book, pairs in some_pairs(chance, 300):
            found = plan(book, pairs)
            made = gentle(book, found)
            self.assertIs(type(made), tuple)
            need_plan(book, pairs, made)
            for legs, other in zip(found, made):
                length, climb, fall = sums_of(book, legs)
                self.assertEqual(other, turned(legs) if climb > fall else legs)
                about += climb > fall
                self.assertLessEqual(sums_of(book, other)[1], sums_of(book, other)[2])
                self.assertEqual(sorted(one[:2] for one in passed(book, legs)), sorted(one[:2] for one in passed(book, other)))
        self.assertGreater(about, 10)


if __name__ == "__main__":
    unittest.main()
