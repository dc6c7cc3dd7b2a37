"""The answers of a desk, as texts, by the words that ask for them."""

from pathbook.badges import brought, gained, lacking
from pathbook.calendar import closures, reasons, seasons
from pathbook.covered import came, share, standing
from pathbook.errors import NotTold
from pathbook.lists import compared, meetings, part_on, ranked
from pathbook.plans import first_free, left_bits, plan_for, rounds, stuck, wanted
from pathbook.showing import book_text, legs_text, thing_text


def row_text(row):
    """The words of one of several, a blank between: texts and numbers, as in a PIECE or a pair."""
    return " ".join([str(word) for word in row])


def single_text(words):
    """Single numbers, NAMES or MARKS; "none" where there are none."""
    return row_text(words) if words else "none"


def parts_text(parts):
    """Texts that aren't single words; "none" where there are none."""
    return ", ".join(parts) if parts else "none"


def rows_text(rows):
    """PIECES, pairs and the like; "none" where there are none."""
    return parts_text([row_text(row) for row in rows])


def lines_text(things):
    """The lines of THINGS; "none" where there are none."""
    return parts_text([thing_text(thing) for thing in things])


def one_text(thing):
    """A single number; "none" of None."""
    return "none" if thing is None else str(thing)


def back_text(club):
    """What was taken back."""
    try:
        word, thing = club.take_back()
    except NotTold:
        return "nothing"
    return f"{word} {thing_text(thing)}"


def things_told(club):
    """How many THINGS of each kind."""
    return str(club)


def walkers_text(club):
    """The WALKERS."""
    return single_text(club.walkers())


def idle_text(club):
    """The THINGS that are IDLE."""
    return lines_text(club.idle())


def seasons_text(club):
    """The SEASONS."""
    found = seasons(club.things())
    return rows_text([(first, last, "none" if book is None else "book") for first, last, book in found])


def list_text(club, only):
    """The THINGS that begin with that word, all of None."""
    return lines_text([thing for thing in club.things() if only is None or thing[0] == only])


def closures_text(club, name):
    """When a SECTION is closed."""
    return rows_text(closures(club.things(), name))


def guide_text(club, day):
    """The BOOK OF a DAY."""
    return book_text(club.book_of(day))


def why_text(club, day, legs):
    """The REASONS of LEGS."""
    return parts_text([reason if reason else "counts" for reason in reasons(club.things(), day, legs)])


def brings_text(club, walk):
    """The badges that a walk would bring."""
    word, day, walker, legs = walk
    return rows_text(brought(club.things(), walker, day, legs))


def standing_text(club, walker, name, day):
    """The STANDING of a SECTION."""
    return standing(club.things(), walker, name, day)


def ranked_text(club, by, day):
    """The WALKERS, ranked."""
    return rows_text(ranked(club, by, day))


def covered_text(club, walker, day):
    """The PIECES covered."""
    return rows_text(club.covered(walker, day))


def done_text(club, walker, day):
    """The STRETCHES DONE."""
    return rows_text(club.done(walker, day))


def left_text(club, walker, day):
    """The STRETCHES LEFT."""
    return rows_text(club.left(walker, day))


def stuck_text(club, walker, day):
    """The STRETCHES that are STUCK."""
    return rows_text(stuck(club, walker, day))


def finished_text(club, walker, day):
    """The SECTIONS DONE."""
    return single_text(club.finished(walker, day))


def excused_text(club, walker, day):
    """The SECTIONS EXCUSED."""
    return single_text(club.excused(walker, day))


def sums_text(club, walker, day):
    """The SUMS."""
    return single_text(club.sums(walker, day))


def share_text(club, walker, day):
    """The two LENGTHS of share."""
    return single_text(share(club.things(), walker, day))


def news_text(club, walker, day):
    """The PIECES that came and went."""
    got, lost = club.news(walker, day)
    return rows_text([("got",) + piece for piece in got] + [("lost",) + piece for piece in lost])


def came_text(club, walker, day):
    """How many PIECES came on which DAYS."""
    return rows_text([(one, len(pieces)) for one, pieces in came(club.things(), walker, day)])


def badges_text(club, walker, day):
    """The badges gained."""
    return rows_text(gained(club.things(), walker, day))


def lacking_text(club, walker, day):
    """What lacks of each badge."""
    return rows_text(lacking(club.things(), walker, day))


def plan_text(club, walker, day):
    """The walks of a PLAN."""
    return parts_text([legs_text(legs) for legs in plan_for(club, walker, day)])


def rounds_text(club, walker, day):
    """How many walks each of the ROUNDS has."""
    return single_text([len(walks) for walks in rounds(club, walker, day)])


def wanted_text(club, walker, day):
    """The MARKS that what is LEFT wants."""
    found = left_bits(club, walker, day)
    book = club.book_of(day)
    return single_text(sorted(set([mark for bit in found for mark in wanted(book, bit)])))


def free_text(club, walker, day):
    """The first DAY that is FREE."""
    return one_text(first_free(club, walker, day))


def both_text(club, first, other, day):
    """The PIECES of both WALKERS."""
    return rows_text(compared(club, first, other, day)[0])


def apart_text(club, first, other, day):
    """The PIECES of the first WALKER alone."""
    return rows_text(compared(club, first, other, day)[1])


def other_text(club, first, other, day):
    """The PIECES of the other WALKER alone."""
    return rows_text(compared(club, first, other, day)[2])


def parts_on_text(club, first, other, day):
    """The DAY on which two WALKERS PART."""
    return one_text(part_on(club, first, other, day))


def meetings_text(club, first, other, day):
    """The DAYS on which two WALKERS MEET."""
    return single_text(meetings(club, first, other, day))


# By the word that asks, each called with the club, and a WALKER and a DAY, two of them and a DAY.
OF_THE_CLUB = {
    "back": back_text, "things": things_told, "walkers": walkers_text, "idle": idle_text, "seasons": seasons_text,
}
OF_A_WALKER = {
    "covered": covered_text, "done": done_text, "left": left_text, "stuck": stuck_text, "finished": finished_text,
    "excused": excused_text, "sums": sums_text, "share": share_text, "news": news_text, "came": came_text,
    "badges": badges_text, "lacking": lacking_text, "plan": plan_text, "rounds": rounds_text, "wanted": wanted_text,
    "free": free_text,
}
OF_TWO_WALKERS = {
    "both": both_text, "apart": apart_text, "other": other_text, "parts": parts_on_text, "meetings": meetings_text,
}
