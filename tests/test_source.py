"""The files of the package: what they import and call (point 1), where the interface stands, and their form."""

import ast
import builtins
import pathlib
import subprocess
import sys
import unittest
import warnings

ROOT = pathlib.Path(__file__).resolve().parent.parent
PACKAGE = ROOT / "soundyard"
FILES = sorted(PACKAGE.rglob("*.py"))

# Of Python's builtins these neither read a clock, a random source, a file nor a network.
HARMLESS = set(
    "len range enumerate zip min max sum abs sorted reversed int str bool bytes list tuple dict set frozenset"
    " isinstance ord repr any all divmod pow getattr hasattr setattr iter next map super property staticmethod"
    " classmethod object float Exception ValueError TypeError KeyError IndexError LookupError ZeroDivisionError"
    " ArithmeticError OverflowError RuntimeError NotImplementedError AttributeError StopIteration NotImplemented".split()
)

# What the interface lists for each class; "__init__" stands for the way it is made.
INTERFACE = {
    "errors.py": {
        "YardError": [], "Repeated": ["__init__"], "Unknown": ["__init__"], "NoStep": ["__init__"],
        "BadCount": ["__init__"], "Lacking": ["__init__"], "Shut": ["__init__"], "Unmet": ["__init__"],
        "Never": ["__init__"],
    },
    "kinds.py": {
        "Steps": ["__init__", "standings", "allow", "steps_from"],
        "Doors": ["__init__", "__iter__", "__getitem__", "__setitem__", "needs", "gives"],
        "Part": ["__init__", "row"],
        "Single": ["__init__", "row", "twin"],
        "Many": ["__init__", "row", "twin"],
    },
    "lots.py": {
        "Hold": ["__init__", "__iter__", "__len__", "__contains__", "__le__", "__eq__", "__or__", "__and__", "__sub__"],
        "Lot": ["__init__", "one", "__iter__", "__len__", "__contains__", "__getitem__", "total", "spots", "__le__",
                "__eq__", "__add__", "__sub__", "__mul__", "__rmul__", "__iadd__", "__isub__"],
    },
    "sites.py": {
        "Site": ["__init__", "singles", "spots", "first_places", "present", "opened", "giver", "unmet", "check",
                 "offered"],
    },
    "yards.py": {
        "Yard": ["__init__", "__getitem__", "__setitem__", "__contains__", "__iter__", "lot", "placed", "put", "step",
                 "take", "leave", "play", "trial", "copy", "table"],
        "Trial": ["__enter__", "__exit__"],
    },
    "plans.py": {
        "Plan": ["__init__", "start", "__iter__", "__len__", "__call__", "__add__"],
    },
    "webs.py": {
        "Web": ["__init__", "pairs", "within", "walk", "reaches", "fewest", "never", "plan"],
    },
}
# The functions of the interface, with their arguments.
FUNCTIONS = {
    "greatest.py": {
        "grown": ["site", "places", "hold"],
        "kept": ["site", "places", "after", "hold"],
        "crossed": ["site", "places", "after", "hold"],
    },
    "plans.py": {
        "same_end": ["first", "second", "yard"],
    },
    "choices.py": {
        "fewest_doors": ["site", "offers", "*", "places", "hold", "goal_places", "goal_hold"],
    },
}


def tree(file):
    return ast.parse(file.read_text(encoding="utf-8"))


def nodes(shape):
    """Return all nodes of this shape in the package, each with its place."""
    return [(f"{file.name}:{node.lineno}", node) for file in FILES for node in ast.walk(tree(file))
            if isinstance(node, shape)]


class OutsideTest(unittest.TestCase):
    def test_imports_come_from_the_package_only(self):
        self.assertEqual([place for place, _ in nodes(ast.Import)], [])
        for place, node in nodes(ast.ImportFrom):
            self.assertEqual(node.level, 0, place)
            self.assertRegex(node.module, r"^soundyard\.[a-z]+$", place)
            self.assertTrue((PACKAGE / (node.module.split(".")[1] + ".py")).is_file(), place)

    def test_only_harmless_builtins_are_named(self):
        for place, node in nodes(ast.Name):
            if node.id in dir(builtins):
                self.assertIn(node.id, HARMLESS, place)

    def test_importing_the_package_loads_nothing_else(self):
        names = ["soundyard"] + [f"soundyard.{file.stem}" for file in FILES if file.stem != "__init__"]
        code = f"""
import sys
before = set(sys.modules)
import {", ".join(names)}
print(sorted(set(sys.modules) - before) == {sorted(names)!r})
"""
        done = subprocess.run([sys.executable, "-B", "-c", code], cwd=ROOT, capture_output=True, text=True, check=True)
        self.assertEqual(done.stdout, "True\n")


class InterfaceTest(unittest.TestCase):
    def test_each_class_and_method_is_defined_where_the_interface_lists_it(self):
        for name, classes in INTERFACE.items():
            found = {node.name: node for node in tree(PACKAGE / name).body if isinstance(node, ast.ClassDef)}
            for shape, methods in classes.items():
                self.assertIn(shape, found)
                own = [node.name for node in found[shape].body if isinstance(node, ast.FunctionDef)]
                self.assertEqual([method for method in methods if method not in own], [], shape)

    def test_each_function_is_defined_where_the_interface_lists_it(self):
        for name, functions in FUNCTIONS.items():
            found = {node.name: node for node in tree(PACKAGE / name).body if isinstance(node, ast.FunctionDef)}
            for function, given in functions.items():
                self.assertIn(function, found)
                args = found[function].args
                named = ["*", *[part.arg for part in args.kwonlyargs]] if args.kwonlyargs else []
                self.assertEqual([part.arg for part in args.args] + named, given, function)


class FormTest(unittest.TestCase):
    def test_the_folder_holds_python_files_only(self):
        others = [file for file in PACKAGE.rglob("*") if file.is_file() and file.suffix not in (".py", ".pyc")]
        self.assertEqual(others, [])
        self.assertIn(PACKAGE / "__init__.py", FILES)

    def test_python_gives_no_warning(self):
        with warnings.catch_warnings():
            warnings.simplefilter("error")
            for file in FILES:
                compile(file.read_text(encoding="utf-8"), str(file), "exec")

    def test_files_lines_and_functions_are_short_and_plain(self):
        for file in FILES:
            rows = file.read_text(encoding="utf-8").split("\n")
            self.assertLessEqual(len(rows), 399, file.name)
            for number, row in enumerate(rows, start=1):
                self.assertLessEqual(len(row), 120, f"{file.name}:{number}")
                self.assertTrue(all(" " <= letter <= "~" for letter in row), f"{file.name}:{number}")
        for place, node in nodes(ast.FunctionDef):
            self.assertLessEqual(node.end_lineno - node.lineno + 1, 40, place)


if __name__ == "__main__":
    unittest.main()
