"""The package's files keep to LANGUAGE.md, as far as a script can see it."""

import pathlib
import re
import unittest

from tests.language import BARRED_ANYWHERE, BARRED_FILES, BARRED_WORDS, circles, file_faults
from tests.language_classes import package_faults

PACKAGE = pathlib.Path(__file__).resolve().parent.parent / "bothreaders"

# Rows that a rule forbids, with the rule: the check has to see them.
FORBIDDEN = (
    ("L2", "import os\n"),
    ("L2", "from random import choice\n"),
    ("L2", "from bothreaders.errors import *\n"),
    ("L2", "from bothreaders.errors import FileError as Wrong\n"),
    ("L2", "from .errors import FileError\n"),
    ("L2", "from math import sqrt\n"),
    ("L2", "LIMIT = 3\nfrom math import gcd\n"),
    ("L16", "from bothreaders.errors import nothing\n"),
    ("L3", "LOW, HIGH = 0, 1\n"),
    ("L3", "LIMIT = len('abc')\n"),
    ("L3", "if True:\n    LIMIT = 3\n"),
    ("L3", "ROWS = [[1], [2]]\n"),
    ("L15", "LIMIT = 3\nLIMIT = 4\n"),
    ("L15", "def low():\n    return 0\n\n\ndef low():\n    return 1\n"),
    ("L15", "def hash(value):\n    return value\n"),
    ("L15", "def low(next):\n    return next\n"),
    ("L15", "class Box:\n    pass\n\n\ndef low(Box):\n    return Box\n"),
    ("L4", "def low():\n    return 0\n\n\n@low\ndef high():\n    return 1\n"),
    ("L4", "class Box:\n    @low\n    def high(self):\n        return 1\n"),
    ("L4", "class Box:\n    @property\n    @staticmethod\n    def high():\n        return 1\n"),
    ("L5", "class Box:\n    def __hash__(self):\n        return 1\n"),
    ("L5", "class Box:\n    def __add__(self, other, more=1):\n        return 1\n"),
    ("L5", "class Box:\n    def __getitem__(self, at):\n        return 1\n"),
    ("L5", "class Box:\n    rows = len('a')\n"),
    ("L5", "class Box:\n    @classmethod\n    def low(cls):\n        return super().low()\n"),
    ("L5", "class Box:\n    def low(self):\n        return super().__len__()\n"),
    ("L5", "class Box:\n    def low(self):\n        return super(Box, self).low()\n"),
    ("L18", "class Box:\n    def low(self):\n        self.low = 1\n"),
    ("L18", "class Box:\n    def low(self):\n        return 1\n\n\nclass Case(Box):\n    def __init__(self):\n        self.low = 1\n"),
    ("L18", "class Box:\n    def low(self):\n        return 1\n\n    def low(self):\n        return 2\n"),
    ("L26", "class Box:\n    def decode(self):\n        return 1\n"),
    ("L26", "class Box:\n    def __init__(self):\n        self.items = []\n"),
    ("L28", "class Box:\n    def __eq__(self, other):\n        return self.n == other.n\n"),
    ("L28", "class Box:\n    def __len__(self):\n        return 1 + len(self.rows)\n"),
    ("L28", "class Box:\n    def __init__(self):\n        return None\n"),
    ("L6", "def low(name):\n    global COUNT\n    return name\n"),
    ("L6", "def low(rows):\n    with rows as row:\n        return row\n"),
    ("L7", "def low(k):\n    return k / 2\n"),
    ("L7", "def low():\n    return 0.5\n"),
    ("L7", "def low(rows):\n    return sum(row for row in rows)\n"),
    ("L7", "def low(rows):\n    return [*rows, 1]\n"),
    ("L7", "def low(rows):\n    return list(zip(*rows, rows))\n"),
    ("L7", "def low(rows):\n    return max(*rows)\n"),
    ("L8", "def low(rows):\n    return filter(None, rows)\n"),
    ("L8", "def low(row):\n    print(row)\n"),
    ("L10", "def low():\n" + "    pass\n" * 40),
    ("L10", "\n" * 400),
    ("L10", "# " + "-" * 119 + "\n"),
    ("L12", "def __low():\n    return 0\n"),
    ("L12", "def low(_):\n    return _\n"),
    ("L14", "# a word with a tab:\t\n"),
    ("L14", "# \u00e4\n"),
    ("L17", "def low(row):\n    return type(row)\n"),
    ("L17", "def open(row):\n    return row\n"),
    ("L17", "def low(input):\n    return input\n"),
    ("L19", "def low(wrong):\n    raise wrong\n"),
    ("L19", "def low():\n    raise ValueError\n"),
    ("L20", "def low(row):\n    return row is low\n"),
    ("L22", "def low(row):\n    return row\n\n\ndef high(row):\n    return low(row, row)\n"),
    ("L22", "from bothreaders.errors import Refused\n\n\ndef low(row):\n    raise Refused(row)\n"),
    ("L22", "def low(rows):\n    return sorted(rows, reverse=True)\n"),
    ("L23", "def low(rows):\n    pairs = zip(rows, rows)\n    return list(pairs)\n"),
    ("L23", "def low(rows):\n    return len(list(rows)) + len(enumerate(rows))\n"),
    ("L23", "def low(rows):\n    return rows.items()\n"),
    ("L24", "def low(rows):\n    seen = set(rows)\n    return seen\n"),
    ("L24", "def low(rows):\n    seen = set(rows)\n    return [row for row in seen]\n"),
    ("L24", "def low(rows):\n    seen = set(rows)\n    seen = set()\n    return 1 in seen\n"),
    ("L24", "def low(rows):\n    return list(set(rows))\n"),
    ("L24", "def low(rows):\n    return {row for row in rows}\n"),
    ("L23", "def low(rows):\n    for row in rows:\n        rows.append(row)\n"),
    ("L23", "def low(rows):\n    for k in list(range(3)) + rows:\n        rows[k] = 1\n"),
    ("L25", "def low(text):\n    return text.encode()\n"),
    ("L27", "def low(text):\n    return text + '%'\n"),
    ("L27", "def low(text):\n    return f'{text!r}'\n"),
    ("L27", "def low(text):\n    return f'{text:5}'\n"),
    ("L27", "def low(text):\n    return f'{text + \"a\"}'\n"),
    ("L27", "def low(text):\n    return text + '\\t'\n"),
    ("L27", "def low(k, n):\n    return k ** n\n"),
    ("L27", "def low(k):\n    return 1if k else 0\n"),
)

# Rows in an operator, or in what it calls, that change what was not created there, and some that may stand.
CHANGES = (
    "self.rows.append(1)", "rows = self.rows\n        rows.append(1)", "self.n = 1", "self.rows[0] = 1", "del self.rows[0]",
    "n = 0\n        n -= 1", "n = 0\n        n += self.n", "other()", "changed(self.rows)", "rows = []\n        rows = self.rows\n        rows.pop()",
    "for row in self.rows:\n            row.append(1)", "box = self.box\n        box.n = 1", "changed_through(self.rows)", "other.change()",
)
NO_CHANGES = (
    "rows = [1]\n        rows.append(1)", "rows = list(self.rows)\n        rows[0] = 1", "n = 0\n        n += 1", "box = Box()\n        box.n = 1",
    "seen = set()\n        seen.add(1)", "other.stay()",
)
BOX = """
class Box:
    def __init__(self):
        self.n = 0
        self.box = None
        self.rows = []

    def __add__(self, other):
        {}
        return 1

    def change(self):
        self.n = 1

    def stay(self):
        return self.n


def changed(rows):
    rows.append(1)


def changed_through(rows):
    changed(rows)
"""


def files_of_the_package():
    return {path.stem: path.read_text(encoding="utf-8") for path in sorted(PACKAGE.glob("*.py"))}


class LanguageTest(unittest.TestCase):

    def test_the_folder_holds_files_with_plain_names_alone(self):
        found = [path for path in PACKAGE.iterdir() if path.name != "__pycache__"]
        self.assertIn("__init__.py", [path.name for path in found])
        self.assertLessEqual(len(found), 100)
        for path in found:
            with self.subTest(path=path.name):
                self.assertTrue(path.is_file())
                self.assertRegex(path.name, r"\A([a-z][a-z0-9_]*|__init__)\.py\Z")
                self.assertNotIn(path.stem, BARRED_FILES | BARRED_ANYWHERE | BARRED_WORDS)
                self.assertIsNone(re.match(r"law_|test_", path.stem))

    def test_the_files(self):
        modules = files_of_the_package()
        for name, text in modules.items():
            with self.subTest(name=name):
                self.assertEqual(file_faults(name, text, modules), [])

    def test_no_two_files_import_from_each_other(self):
        self.assertEqual(circles(files_of_the_package()), [])
        self.assertEqual(circles({"a": "from bothreaders.b import x\n", "b": "from bothreaders.c import x\n",
                                  "c": "from bothreaders.b import y\n"}), ["b", "c"])

    def test_all_files_together(self):
        self.assertEqual(package_faults(files_of_the_package()), [])

    def test_what_an_operator_changes(self):
        for row in CHANGES:
            with self.subTest(row=row):
                self.assertTrue(package_faults({"box": BOX.format(row)}))
        for row in NO_CHANGES:
            with self.subTest(row=row):
                self.assertEqual(package_faults({"box": BOX.format(row)}), [])
        for row in ("Box().nothing", "Box().nothing()"):
            self.assertTrue(package_faults({"box": BOX.format("pass") + f"\n\ndef low():\n    return {row}\n"}))

    def test_the_check_sees_what_is_forbidden(self):
        modules = files_of_the_package()
        for rule, text in FORBIDDEN:
            with self.subTest(rule=rule, text=text):
                found = file_faults("sample", text, modules)
                self.assertTrue([fault for fault in found if re.search(rf"\b{rule}\b", fault)], found)


if __name__ == "__main__":
    unittest.main()
