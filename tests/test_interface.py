"""Each name of the interface is defined in its file, with the arguments and defaults as written."""

import importlib
import inspect
import unittest

INTERFACE = {
    "errors": {
        "PathError": None, "BadName": None, "BadDay": None, "BadSection": None, "BadBook": "(place)",
        "BadLegs": None, "BadThing": None, "SecondBook": "(day)", "BadPlan": "(number)",
        "BadText": "(line=0, word=0)", "BadLine": None, "NotThere": None, "NoBook": "(day)",
        "NoSection": "(name)", "NotTold": None, "TooMany": "(most=99)",
    },
    "words": {
        "is_whole": "(thing, least=0, most=9999)", "is_name": "(thing)", "need_name": "(thing)",
        "need_day": "(thing)", "number_in": "(word, most=9999)", "rows_of": "(text)",
    },
    "books": {
        "is_stretch": "(thing)", "is_section": "(thing)", "need_section": "(thing)", "need_book": "(thing)",
        "pieces_of": "(section)", "whole_of": "(section)", "section_of": "(book, name)",
        "numbers_of": "(book, mark)", "besides_of": "(book, name)", "badge_of": "(book, name)",
        "stretch_at": "(book, piece)", "kept": "(old, new)", "lost": "(old, new)", "come": "(old, new)",
    },
    "showing": {
        "book_text": "(book)", "legs_text": "(legs)", "thing_text": "(thing)", "things_text": "(things, only=None)",
    },
    "reading": {
        "book_in": "(text, first=1)", "legs_in": "(text, first=1)", "thing_in": "(text, first=1)",
        "things_in": "(text, first=1)",
    },
    "legs": {
        "is_legs": "(thing)", "need_legs": "(thing)", "steps_of": "(leg)", "measure": "(section, leg)",
        "turned": "(legs)", "shortened": "(legs)", "from_to": "(book, leg, closed=None)",
        "meets": "(book, legs, closed=None)", "counted": "(book, legs, closed=None)",
        "passed": "(book, legs, closed=None)", "sums_of": "(book, legs, closed=None)",
        "trails": "(book, legs, closed=None)", "behind": "(book, first, second, closed=None)",
        "Walk": "(day, walker, legs)", "in_order": "(walks)",
    },
    "calendar": {
        "need_thing": "(thing)", "put_in": "(things, thing)", "taken_out": "(things, thing)",
        "book_of": "(things, day)", "seasons": "(things, first=0, last=9999)", "closed_on": "(things, name, day)",
        "closures": "(things, name, first=0, last=9999)", "closed_names": "(things, day)",
        "reasons": "(things, day, legs)", "counting": "(things, day, legs)", "is_sound": "(things, day, legs)",
        "break_of": "(things, day, legs)", "walks_of": "(things, walker, last=9999)",
    },
    "covered": {
        "covered": "(things, walker, day=9999)", "times": "(things, walker, day=9999)",
        "came": "(things, walker, day=9999)", "done": "(things, walker, day=9999)",
        "left": "(things, walker, day=9999)", "finished": "(things, walker, day=9999)",
        "excused": "(things, walker, day=9999)", "share": "(things, walker, day=9999)",
        "standing": "(things, walker, name, day=9999)", "sums": "(things, walker, day=9999, since=0)",
    },
    "club": {"Club": "(things=None)", "merged": "(clubs)"},
    "plans": {
        "bits": "(book, pairs, clear=None)", "odd_marks": "(book, pairs)", "is_clear": "(book, bit)",
        "wanted": "(book, bit)", "walks_needed": "(book, pairs)", "plan": "(book, pairs, short=True)",
        "need_plan": "(book, pairs, thing)", "gentle": "(book, plan)",
        "left_bits": "(club, walker, day, clear=None)", "plan_for": "(club, walker, day, short=True)",
        "things_for": "(club, walker, day)", "rounds": "(club, walker, day)", "stuck": "(club, walker, day)",
        "first_free": "(club, walker, day)",
    },
    "badges": {
        "held": "(things, walker, name, day=9999)", "lacking": "(things, walker, day=9999)",
        "gained": "(things, walker, last=9999)", "gained_on": "(things, walker, name, last=9999)",
        "brought": "(things, walker, day, legs)",
    },
    "lists": {
        "daytimes": "(book, legs, most)", "compared": "(club, first, other, day=9999)",
        "pieces_together": "(club, walkers, day=9999)", "left_together": "(club, walkers, day=9999)",
        "part_on": "(club, first, other, day=9999)", "meetings": "(club, first, other, day=9999)",
        "ranked": "(club, by='pieces', day=9999)",
    },
    "desk": {"Desk": "(things='')", "all_said": "(lines, things='')"},
}

# Each stands in the body of its class.
METHODS = {
    ("legs", "Walk"): {
        "__init__": "(self, day, walker, legs)", "thing": "(self)", "about": "(self)",
        "again": "(self, day=None, walker=None)", "__len__": "(self)", "__str__": "(self)", "__eq__": "(self, other)",
    },
    ("club", "Club"): {
        "__init__": "(self, things=None)", "tell": "(self, thing)", "untell": "(self, thing)", "take_back": "(self)",
        "things": "(self)", "changes": "(self)", "walkers": "(self)", "idle": "(self)", "book_of": "(self, day=9999)",
        "covered": "(self, walker, day=9999)", "done": "(self, walker, day=9999)", "left": "(self, walker, day=9999)",
        "finished": "(self, walker, day=9999)", "excused": "(self, walker, day=9999)",
        "sums": "(self, walker, day=9999, since=0)", "news": "(self, walker, day=9999)", "twin": "(self)",
        "up_to": "(self, day)", "lean": "(self)", "__len__": "(self)", "__str__": "(self)", "__eq__": "(self, other)",
    },
    ("desk", "Desk"): {
        "__init__": "(self, things='')", "said": "(self, line)", "__len__": "(self)", "club": "(self)",
    },
}


class Interface(unittest.TestCase):
    def test_defined_in_its_file(self):
        for file, names in INTERFACE.items():
            module = importlib.import_module("pathbook." + file)
            for name in names:
                self.assertEqual(getattr(module, name).__module__, "pathbook." + file, name)

    def test_arguments(self):
        for file, names in INTERFACE.items():
            module = importlib.import_module("pathbook." + file)
            for name, arguments in names.items():
                if arguments is not None:
                    self.assertEqual(str(inspect.signature(getattr(module, name))), arguments, name)

    def test_methods(self):
        for (file, name), methods in METHODS.items():
            module = importlib.import_module("pathbook." + file)
            for method, arguments in methods.items():
                own = vars(getattr(module, name))[method]
                self.assertEqual(str(inspect.signature(own)), arguments, (name, method))


if __name__ == "__main__":
    unittest.main()
