"""Each name of the interface is defined in its file, with the arguments and defaults as written."""

import importlib
import inspect
import unittest

INTERFACE = {
    "errors": {
        "PathError": None, "BadName": None, "BadDay": None, "BadSection": None, "BadBook": "(place)",
        "BadLegs": None, "BadThing": None, "SecondBook": "(day)", "BadPlan": "(number)",
        "BadText": "(line=0, word=0)", "BadLine": None, "NotThere": None, "NoBook": "(day)",
        "NoSection": "(name)", "NotTold": None, "TooMany": "(most=99)",
    },
    "words": {
        "is_whole": "(thing, least=0, most=9999)", "is_name": "(thing)", "need_name": "(thing)",
        "need_day": "(thing)", "number_in": "(word, most=9999)", "rows_of": "(text)",
    },
    "books": {
        "is_stretch": "(thing)", "is_section": "(thing)", "need_section": "(thing)", "need_book": "(thing)",
        "pieces_of": "(section)", "whole_of": "(section)", "section_of": "(book, name)",
        "numbers_of": "(book, mark)", "besides_of": "(book, name)", "badge_of": "(book, name)",
        "stretch_at": "(book, piece)", "kept": "(old, new)", "lost": "(old, new)", "come": "(old, new)",
    },
}


class Interface(unittest.TestCase):
    def test_defined_in_its_file(self):
        for file, names in INTERFACE.items():
            module = importlib.import_module("pathbook." + file)
            for name in names:
                self.assertEqual(getattr(module, name).__module__, "pathbook." + file, name)

    def test_arguments(self):
        for file, names in INTERFACE.items():
            module = importlib.import_module("pathbook." + file)
            for name, arguments in names.items():
                if arguments is not None:
                    self.assertEqual(str(inspect.signature(getattr(module, name))), arguments, name)


if __name__ == "__main__":
    unittest.main()
