"""The package keeps to the Python subset, and the look at it sees what doesn't."""

import pathlib
import unittest

from tests.form import complaints

PACKAGE = pathlib.Path(__file__).resolve().parent.parent / "pathbook"
FILES = {path.name: path.read_text() for path in sorted(PACKAGE.glob("*.py"))}

GOOD = '''"""A file."""

from pathbook.words import is_name

NORTH = 0
SORTS = ("a", ("b", -1))
TABLE = {"a": 1}


class Odd(ValueError):
    """An error."""

    def __init__(self, place):
        self.place = place


class Box:
    """A class."""

    def __init__(self, rows):
        self.rows = rows

    def told(self):
        return [row for row in self.rows if is_name(row)]

    def __len__(self):
        return len(self.rows)

    def __eq__(self, other):
        return isinstance(other, Box) and self.rows == other.rows

    def __str__(self):
        return str(self.told())


def asked(box, most=5):
    """A function."""
    found = {}
    for at, row in enumerate(box.rows):
        found[row] = at
    if len(set(box.rows)) != len(box.rows) or most is None or "a" not in TABLE:
        raise Odd(TABLE["a"])
    return sorted(found, key=lambda row: found[row])
'''

# A rule, and rows that break it, at the end of a function, or of a file where they begin with none.
IN_A_FUNCTION = (
    ("L6", "global box"), ("L2", "import sys"), ("L7", "return 1 / 2"), ("L7", "return 1.5"), ("L8", "return getattr(box, 'a')"),
    ("L8", "print(box)"), ("L8", "return open(box)"), ("L10", "return " + "1 + " * 40 + "1"), ("L12", "_ = 1"),
    ("L12", "under_ok = _x = 1"), ("L15", "list = [1]"), ("L15", "is_name = 1"), ("L15", "Box = 1"), ("L17", "box.mro = 1"),
    ("L17", "return 1  # the type of a box"), ("L18", "return [Box]"), ("L18", "Box.most = 5"), ("L18", "return box.nowhere"),
    ("L18", "box.told = 5"), ("L19", "raise box"), ("L19", "raise box.wrong()"), ("L20", "return box is most"),
    ("L22", "return len"), ("L22", "return sum(box, begin=1)"), ("L22", "return asked()"), ("L22", "return asked(1, 2, 3)"),
    ("L22", "return asked(1, least=3)"), ("L23", "return zip(box, box)"), ("L23", "rows = range(5)"),
    ("L23", "return box.rows.items()"), ("L24", "return set(box)"), ("L24", "return {1, box}"),
    ("L25", "return box.rows.fromkeys(1)"), ("L25", "return 'a'.format(1)"), ("L26", "box.items = 5"), ("L27", "return 2 ** most"),
    ("L27", "return 'a\\x41'"), ("L27", "return '5%'"), ("L7", "return (yield box)"), ("L7", "return any(row for row in box)"),
    ("L15", "SORTS.append(1)"), ("L7", "return box if (most := 5) else 1"), ("L13", "return box in {1, 2, 3}"),
    ("L23", "for row in box.rows:\n        box.rows.append(row)"), ("L23", "for row in most:\n        most[row] = 1"),
    ("L19", "try:\n        return box\n    except Exception:\n        return 1"), ("L7", "return f'{most!a}'"),
    ("L19", "try:\n        return box\n    except ValueError:\n        return 1"), ("L25", "box.rows.sort()"),
    ("L13", "return [lambda row: 1, lambda row: 2]"), ("L15", "SORTS[0] = 1"), ("L15", "del SORTS[0][1]"),
    ("L17", "return box.f_back"), ("L27", "return 'tb_next'"), ("L27", "return 1" + "0" * 900), ("L6", "match box:\n        case 1:\n            return 2"), ("L6", "box\n    most"), ("L18", "return isinstance(Box, Box)"),
    ("L15", "return TABLE"), ("L15", "rows = TABLE"), ("L15", "return asked(TABLE)"), ("L15", "return [TABLE]"), ("L15", "return TABLE or box"),
    ("L19", "try:\n        return asked(box)\n    except Odd as why:\n        return 1\n    except KeyError as why:\n        return 2"),
    ("L19", "try:\n        return asked(box)\n    except Odd as most:\n        return 1"), ("L22", "return Box()"), ("L22", "return Box(1, 2)"),
    ("L22", "return Box(row=1)"), ("L22", "raise Odd()"), ("L22", "return box.told(5)"), ("L22", "return box.told(rows=5)"),
)
IN_A_FILE = (
    ("L3", "asked(1)"), ("L3", "A = B = 1"), ("L3", "A, B = 1, 2"), ("L3", "A = [[1]]"), ("L3", "A = len('a')"),
    ("L15", "NORTH = 1"), ("L15", "def asked():\n    pass"), ("L2", "from pathbook.words import is_whole"), ("L3", "if NORTH:\n    A = 1"),
    ("L4", "def other(box, /):\n    pass"), ("L4", "def other(box=[]):\n    pass"), ("L4", "@staticmethod\ndef other():\n    pass"),
    ("L5", "class Other(Nothing):\n    pass"), ("L5", "class Other:\n    def __hash__(self):\n        return 1"),
    ("L21", "def other(box: int):\n    pass"), ("L15", "def max(box):\n    pass"), ("L15", "def other(len):\n    pass"),
    ("L18", "class Other:\n    def rows(self):\n        return 1"), ("L26", "class Other:\n    def encode(self):\n        return 1"),
    ("L28", "class Other:\n    def __len__(self):\n        return self.rows"), ("L6", "async def other():\n    pass"),
    ("L28", "class Other:\n    def __init__(self):\n        return None"),
    ("L28", "class Other:\n    def __str__(self):\n        return self.told()"),
    ("L28", "class Other:\n    def __eq__(self, other):\n        self.rows = 1\n        return True"),
    ("L18", "class Other:\n    def told(self):\n        pass\n\n    def told(self):\n        pass"),
    ("L10", "def other(box):\n" + "    box += 1\n" * 40), ("L10", "# a\n" * 399), ("L14", "# \u00e9"), ("L14", "# a\tb"),
)
WORDS = {"words.py": "def is_name(thing):\n    return True\n\n\ndef is_whole(thing):\n    return True\n"}


def rules(text, **others):
    files = {"box.py": text, **WORDS, **{name + ".py": other for name, other in others.items()}}
    return {rule for rule, file, line in complaints(files)}


class Form(unittest.TestCase):
    def test_the_package(self):
        self.assertEqual(complaints(FILES), [])

    def test_nothing_but_python_files(self):
        found = [path.name for path in PACKAGE.iterdir() if path.name != "__pycache__"]
        self.assertEqual(sorted(found), sorted(FILES))
        self.assertIn("__init__.py", found)


class TheLook(unittest.TestCase):
    def test_a_good_file(self):
        self.assertEqual(rules(GOOD), set())

    def test_rows_in_a_function(self):
        for rule, rows in IN_A_FUNCTION:
            self.assertIn(rule, rules(f"{GOOD}\n\ndef more(box, most):\n    {rows}\n"), rows)

    def test_rows_in_a_file(self):
        for rule, rows in IN_A_FILE:
            self.assertIn(rule, rules(f"{GOOD}\n\n{rows}\n"), rows)

    def test_imports(self):
        for rule, row in (
            ("L2", "import pathbook.words"), ("L2", "from pathbook.words import *"), ("L2", "from .words import is_name"),
            ("L2", "from pathbook import words"), ("L2", "from os import path"), ("L16", "from pathbook.words import nothing"),
            ("L16", "from pathbook.more import is_name"), ("L16", "from pathbook.nowhere import is_name"),
        ):
            more = "from pathbook.words import is_name\n"
            self.assertIn(rule, rules(row + "\n", more=more), row)
        circle = "from pathbook.box import NORTH\n\nSOUTH = 1\n"
        self.assertIn("L16", rules("from pathbook.more import SOUTH\n\nNORTH = 1\n", more=circle))

    def test_names_of_files(self):
        for name in ("Box", "test", "sum", "conftest", "site"):
            self.assertIn("L14", rules(GOOD, **{name: "A = 1\n"}), name)


if __name__ == "__main__":
    unittest.main()
