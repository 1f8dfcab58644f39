"""LANGUAGE.md: the package keeps to its rules, and the check of them finds what breaks them."""

import os
import unittest

from tests.language import PACKAGE, faults

FOLDER = os.path.join(os.path.dirname(os.path.dirname(os.path.abspath(__file__))), PACKAGE)


def package_files():
    names = [name for name in sorted(os.listdir(FOLDER)) if name != "__pycache__"]
    files = {}
    for name in names:
        with open(os.path.join(FOLDER, name), encoding="utf-8", newline="") as file:
            files[name] = file.read()
    return files


def small_package(name, text):
    """The refusals and one more file."""
    files = package_files()
    return {"__init__.py": files["__init__.py"], "errors.py": files["errors.py"], name: text}


BROKEN = [
    ("L2", "import sys\n"),
    ("L2", "from os import path\n"),
    ("L2", "from chalkcave.errors import CaveError as Bad\n"),
    ("L2", "from .errors import CaveError\n"),
    ("L2", "ONE = 1\nTWO = 2\nfrom chalkcave.errors import CaveError\n"),
    ("L16", "from chalkcave.errors import Nowhere\n"),
    ("L16", "from chalkcave.broken import ONE\nONE = 1\n"),
    ("L3", "ONE = len('a')\n"),
    ("L3", "if True:\n    pass\n"),
    ("L3", "def f():\n    return 1\nONE = f\n"),
    ("L3", "ONE = [f]\ndef f():\n    return 1\n"),
    ("L4", "def f(a, /):\n    return a\n"),
    ("L4", "def f(a=[]):\n    return a\n"),
    ("L4", "def f():\n    def g():\n        return 1\n    return g()\n"),
    ("L5", "class A(dict):\n    pass\n"),
    ("L6 or L7", "def f():\n    global a\n    a = 1\n"),
    ("L6 or L7", "def f(a):\n    return a / 2\n"),
    ("L6 or L7", "def f(a):\n    return a ** 2\n"),
    ("L6 or L7", "def f(a):\n    return lambda b: a\n"),
    ("L6", "def f(a):\n    try:\n        return a\n    finally:\n        a = 1\n"),
    ("L19", "def f(a):\n    try:\n        return int(a)\n    except ValueError:\n        return 1\n"),
    ("L19", "def f(a):\n    try:\n        return a\n    except:\n        return 1\n"),
    ("L19", "def f(a):\n    try:\n        return a\n    except Exception:\n        return 1\n"),
    ("L6 or L7", "def f(a):\n    return {a}\n"),
    ("L6 or L7", "def f(a):\n    return (b := a)\n"),
    ("L7", "def f():\n    return 1.5\n"),
    ("L7", "def f(a):\n    return a[0](1)\n"),
    ("L7", "def f():\n    return 1\nONE = [f]\ndef g():\n    return ONE[0]()\n"),
    ("L8", "def f(a):\n    return hash(a)\n"),
    ("L8", "def f(a):\n    print(a)\n"),
    ("L10", "def f(a):\n" + "    a = 1\n" * 40),
    ("L10", "ONE = 1\n" * 401),
    ("L10", "# " + "a" * 120 + "\n"),
    ("L12 or L17", "def _f():\n    return 1\n"),
    ("L12 or L17", "def f(_):\n    return 1\n"),
    ("L12 or L17", "def f(vars):\n    return 1\n"),
    ("L14", "# \u00e9\n"),
    ("L15", "ONE = 1\nONE = 2\n"),
    ("L15", "def f(min):\n    return 1\n"),
    ("L15", "ONE = [[1], [2]]\n"),
    ("L15", "ONE = {1: {}}\n"),
    ("L15", "ONE = [1]\ndef f():\n    return ONE\n"),
    ("L15", "ONE = [1]\ndef f():\n    ONE.append(1)\n"),
    ("L15", "ONE = [1]\ndef f():\n    ONE[0] = 2\n"),
    ("L15", "from chalkcave.errors import NoWay\ndef f():\n    NoWay = 1\n    return NoWay\n"),
    ("L17", "# of another type\n"),
    ("L18", "class A:\n    def one(self):\n        self.one = 1\n"),
    ("L18", "def f(a):\n    return a.nowhere\n"),
    ("L18", "class A:\n    def one(self):\n        return 1\n    def one(self):\n        return 1\n"),
    ("L19", "def f(a):\n    raise a\n"),
    ("L19", "def f(a):\n    raise TypeError('a')\n"),
    ("L20", "def f(a, b):\n    return a is b\n"),
    ("L21", "def f(a: int):\n    return a\n"),
    ("L22", "def f(a):\n    return sorted(a, reverse=True)\n"),
    ("L22", "def f(a):\n    b = len\n    return a\n"),
    ("L23", "def f(a):\n    b = range(a)\n    return b\n"),
    ("L23", "def f(a):\n    for b in a:\n        a.append(b)\n"),
    ("L23", "def f(a):\n    for b in a:\n        a[0] = b\n"),
    ("L25", "def f(a):\n    a.frobnicate()\n"),
    ("L26", "class A:\n    def __init__(self):\n        self.items = 1\n"),
    ("L26", "class A:\n    def decode(self):\n        return 1\n"),
    ("L27", "ONE = 'a%b'\n"),
    ("L27", "ONE = '\\r'\n"),
    ("L27", "def f(a):\n    return f'{a}%'\n"),
    ("L27", "def f(a):\n    return f'{a}\\r'\n"),
    ("L27", "def f(a):\n    return f'{a[\"b\"]}'\n"),
    ("L7", "def f(a):\n    return f'{a:3}'\n"),
    ("L28", "class A:\n    def __init__(self):\n        return None\n"),
    ("L28", "class A:\n    def __lt__(self, other):\n        return True\n"),
]


class Language(unittest.TestCase):
    def test_the_package_keeps_to_it(self):
        self.assertEqual(faults(package_files()), [])

    def test_the_folder_holds_just_files(self):
        for name in package_files():
            self.assertTrue(os.path.isfile(os.path.join(FOLDER, name)), name)

    def test_what_breaks_a_rule_is_found(self):
        for rule, text in BROKEN:
            with self.subTest(rule=rule, text=text[:80]):
                files = small_package("broken.py", text)
                self.assertIn(rule, [fault[0] for fault in faults(files)])

    def test_wrong_names_of_files_are_found(self):
        for rule, name in (("L1", "notes.txt"), ("L1", "Upper.py"), ("L14", "tests.py"), ("L14", "filter.py")):
            with self.subTest(name):
                files = small_package(name, "")
                self.assertIn(rule, [fault[0] for fault in faults(files)])

    def test_a_package_without_init_is_found(self):
        files = package_files()
        del files["__init__.py"]
        self.assertIn("L14", [fault[0] for fault in faults(files)])


if __name__ == "__main__":
    unittest.main()
