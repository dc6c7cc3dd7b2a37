"""A desk's lines looked at in another, slower way: patterns of words, and all ways to go on from some."""

from tests import naive_texts
from tests.naive_texts import NAME, is_day, thing_ends, whole_legs, whole_thing

ALONE = "back things list walkers idle seasons guide".split()
OF_A_WALKER = (
    "covered done left stuck finished excused sums share news came badges lacking plan rounds wanted free"
).split()
OF_TWO = "both apart other parts meetings".split()
RANKED = "pieces days length climb".split()


def fits(words, *patterns):
    """Whether words are as patterns say: "NAME", "DAY", or a tuple of words."""
    if len(words) != len(patterns):
        return False
    for word, pattern in zip(words, patterns):
        if pattern == "NAME":
            good = NAME.match(word)
        elif pattern == "DAY":
            good = is_day(word)
        else:
            good = word in pattern
        if not good:
            return False
    return True


def is_line(words):
    """Whether these words are a line that a desk takes."""
    word, rest = words[0], words[1:]
    if word == "untell":
        return whole_thing(rest) is not None
    if word == "brings":
        return rest[:1] == ["walk"] and whole_thing(rest) is not None
    if word == "why":
        return fits(rest[:1], "DAY") and whole_legs(rest[1:]) is not None
    if whole_thing(words) is not None:
        return True
    return any(fits(words, *pattern) for pattern in (
        [ALONE], [["list"], ["book", "closed", "walk"]], [["guide"], "DAY"], [["closures"], "NAME"], [OF_A_WALKER, "NAME"],
        [OF_A_WALKER, "NAME", "DAY"], [["standing"], "NAME", "NAME"], [["standing"], "NAME", "NAME", "DAY"],
        [OF_TWO, "NAME", "NAME"], [OF_TWO, "NAME", "NAME", "DAY"], [["ranked"], RANKED], [["ranked"], RANKED, "DAY"],
    ))


def ways_on(words):
    """Ways to go on: if there is any, one of these is one."""
    ways = [[], ["q"], ["q", "q"], ["pieces"], ["closed", "q", "0", "0"], ["walk", "0", "q", "q", "0", "1"], ["0", "q", "0", "1"]]
    ways += thing_ends(words) + thing_ends(words[1:]) + [["q", "0", "1"], ["0", "1"], ["1"], ["0"]]
    return ways


def goes_on(words):
    """Whether a line of a desk begins with these words."""
    words = list(words)
    return any(is_line(words + way) for way in ways_on(words) if words + way)


def bad_word(words):
    """The number of the first word with which no line begins, None of a line."""
    if words and is_line(words):
        return None
    return naive_texts.first_wrong(words, goes_on)
