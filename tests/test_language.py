"""What can cheaply be seen of LANGUAGE.md's rules, and that nothing outside is used."""

import ast
import builtins
import inspect
import os
import unittest

from bunkmates.halves import half_pairing, is_steady
from bunkmates.lists import mutual
from bunkmates.offers import offered
from bunkmates.pairings import is_good, spoilers
from bunkmates.rings import last_rows, rings_out
from bunkmates.search import all_good
from bunkmates.told import alone, odd_rings, paired

FOLDER = os.path.join(os.path.dirname(os.path.dirname(os.path.abspath(__file__))), "bunkmates")
LIBRARY = ("heapq", "math", "itertools", "collections")
BUILTINS = """
    len range enumerate zip min max sum abs sorted reversed int str bool bytes list tuple dict
    set isinstance ord repr any all divmod iter next map ValueError KeyError IndexError
    LookupError super
""".split()


def sources():
    """Each file of the package with its text."""
    for name in sorted(os.listdir(FOLDER)):
        if name != "__pycache__":
            with open(os.path.join(FOLDER, name), encoding="utf-8") as held:
                yield name, held.read()


class Language(unittest.TestCase):
    def test_files_are_plain_and_short(self):
        for name, text in sources():
            self.assertTrue(name.endswith(".py"), name)
            self.assertLessEqual(len(text.splitlines()), 399, name)
            self.assertTrue(all(sign == "\n" or " " <= sign <= "~" for sign in text), name)
            for line in text.splitlines():
                self.assertLessEqual(len(line), 120, name)

    def test_functions_are_short(self):
        for name, text in sources():
            for node in ast.walk(ast.parse(text)):
                if isinstance(node, ast.FunctionDef):
                    self.assertLessEqual(node.end_lineno - node.lineno + 1, 40, (name, node.name))

    def test_only_the_package_and_the_allowed_library_is_imported(self):
        for name, text in sources():
            for node in ast.walk(ast.parse(text)):
                self.assertNotIsInstance(node, ast.Import, name)
                if isinstance(node, ast.ImportFrom):
                    self.assertEqual(node.level, 0, name)
                    self.assertIn(node.module.split(".")[0], ("bunkmates",) + LIBRARY, name)

    def test_only_the_allowed_builtins_are_used(self):
        for name, text in sources():
            for node in ast.walk(ast.parse(text)):
                if isinstance(node, ast.Name) and hasattr(builtins, node.id):
                    self.assertIn(node.id, BUILTINS, name)

    def test_no_floats(self):
        for name, text in sources():
            for node in ast.walk(ast.parse(text)):
                self.assertNotIsInstance(node, ast.Div, name)
                if isinstance(node, ast.Constant):
                    self.assertNotIsInstance(node.value, (float, complex), name)


class Interface(unittest.TestCase):
    def test_functions_stand_in_their_files_with_their_arguments(self):
        for function, module, arguments in (
            (mutual, "bunkmates.lists", ["lists"]),
            (spoilers, "bunkmates.pairings", ["lists", "pairing"]),
            (is_good, "bunkmates.pairings", ["lists", "pairing"]),
            (offered, "bunkmates.offers", ["lists"]),
            (rings_out, "bunkmates.rings", ["lists"]),
            (last_rows, "bunkmates.rings", ["lists"]),
            (half_pairing, "bunkmates.halves", ["lists"]),
            (is_steady, "bunkmates.halves", ["lists", "half"]),
            (paired, "bunkmates.told", ["lists"]),
            (odd_rings, "bunkmates.told", ["lists"]),
            (alone, "bunkmates.told", ["lists"]),
            (all_good, "bunkmates.search", ["lists"]),
        ):
            self.assertEqual(function.__module__, module)
            self.assertEqual(list(inspect.signature(function).parameters), arguments)
