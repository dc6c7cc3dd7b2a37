"""Each name of the interface is defined in its file, with the arguments and defaults as written."""

import importlib
import inspect
import unittest

INTERFACE = {
    "errors": {
        "PathError": None, "BadName": None, "BadDay": None, "BadSection": None, "BadBook": "(place)",
        "BadLegs": None, "BadThing": None, "SecondBook": "(day)", "BadPlan": "(number)",
        "BadText": "(line=0, word=0)", "BadLine": None, "NotThere": None, "NoBook": "(day)",
        "NoSection": "(name)", "NotTold": None, "TooMany": "(most=99)",
    },
    "words": {
        "is_whole": "(thing, least=0, most=9999)", "is_name": "(thing)", "need_name": "(thing)",
        "need_day": "(thing)", "number_in": "(word, most=9999)", "rows_of": "(text)",
    },
    "books": {
        "is_stretch": "(thing)", "is_section": "(thing)", "need_section": "(thing)", "need_book": "(thing)",
        "pieces_of": "(section)", "whole_of": "(section)", "section_of": "(book, name)",
        "numbers_of": "(book, mark)", "besides_of": "(book, name)", "badge_of": "(book, name)",
        "stretch_at": "(book, piece)", "kept": "(old, new)", "lost": "(old, new)", "come": "(old, new)",
    },
    "showing": {
        "book_text": "(book)", "legs_text": "(legs)", "thing_text": "(thing)", "things_text": "(things, only=None)",
    },
    "reading": {
        "book_in": "(text, first=1)", "legs_in": "(text, first=1)", "thing_in": "(text, first=1)",
        "things_in": "(text, first=1)",
    },
    "legs": {
        "is_legs": "(thing)", "need_legs": "(thing)", "steps_of": "(leg)", "measure": "(section, leg)",
        "turned": "(legs)", "shortened": "(legs)", "from_to": "(book, leg, closed=None)",
        "meets": "(book, legs, closed=None)", "counted": "(book, legs, closed=None)",
        "passed": "(book, legs, closed=None)", "sums_of": "(book, legs, closed=None)",
        "trails": "(book, legs, closed=None)", "behind": "(book, first, second, closed=None)",
        "Walk": "(day, walker, legs)", "in_order": "(walks)",
    },
}

# Each stands in the body of its class.
METHODS = {
    ("legs", "Walk"): {
        "__init__": "(self, day, walker, legs)", "thing": "(self)", "about": "(self)",
        "again": "(self, day=None, walker=None)", "__len__": "(self)", "__str__": "(self)", "__eq__": "(self, other)",
    },
}


class Interface(unittest.TestCase):
    def test_defined_in_its_file(self):
        for file, names in INTERFACE.items():
            module = importlib.import_module("pathbook." + file)
            for name in names:
                self.assertEqual(getattr(module, name).__module__, "pathbook." + file, name)

    def test_arguments(self):
        for file, names in INTERFACE.items():
            module = importlib.import_module("pathbook." + file)
            for name, arguments in names.items():
                if arguments is not None:
                    self.assertEqual(str(inspect.signature(getattr(module, name))), arguments, name)

    def test_methods(self):
        for (file, name), methods in METHODS.items():
            module = importlib.import_module("pathbook." + file)
            for method, arguments in methods.items():
                own = vars(getattr(module, name))[method]
                self.assertEqual(str(inspect.signature(own)), arguments, (name, method))


if __name__ == "__main__":
    unittest.main()
