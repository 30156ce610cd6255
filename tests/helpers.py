"""What several test files need."""

import unittest

from soundyard.errors import Shut, Unmet
from soundyard.kinds import Many, Single
from soundyard.sites import Site

HUGE = 10 ** 29 + 7
# Python refuses to write an integer of this length in digits, so no text may contain it.
LONG = 10 ** 6000


def told(error):
    """Return an error as the document writes it: its class and its fields in order."""
    fields = ", ".join(f"{name}={worth!r}" for name, worth in vars(error).items())
    return f"{type(error).__name__}({fields})"


class Case(unittest.TestCase):
    def refused(self, expected, action, *given):
        """Check that the action raises exactly the expected error, with the fields of it."""
        with self.assertRaises(type(expected)) as caught:
            action(*given)
        self.assertIs(type(caught.exception), type(expected))
        self.assertEqual(vars(caught.exception), vars(expected))
        return caught.exception

    def unmet(self, need, action, *given):
        """Check that the action raises the error of this unmet need, with the shut door as its cause."""
        error = self.refused(Unmet(*need), action, *given)
        self.assertIs(type(error.__cause__), Shut)
        self.assertEqual(vars(error.__cause__), {"door": need[2]})


def made(shape, name, standings, steps=(), doors=()):
    """Return a kind; `doors` is a list of tuples (standing, needs, gives)."""
    kind = shape(name, standings)
    for before, after in steps:
        kind.allow(before, after)
    for standing, needs, gives in doors:
        kind[standing] = (needs, gives)
    return kind


def single(name, standings, steps=(), doors=()):
    return made(Single, name, standings, steps, doors)


def many(name, standings, steps=(), doors=()):
    return made(Many, name, standings, steps, doors)


def example_kinds():
    """Return the kinds of point 19 of the document."""
    up = [("idle", "up")]
    return [
        single("base", ["old", "new"], [("old", "new")], [("old", [], ["d1"]), ("new", [], ["d2"])]),
        many("app", ["idle", "up"], up, [("up", ["d1"], ["page"])]),
        many("next", ["idle", "up"], up, [("up", ["d2"], ["page"])]),
        single("user", ["on"], [], [("on", ["page"], [])]),
    ]


def rooms():
    """Return a site: copies of `one` come in at left only, those of `two` at right; those that are on stay at hall."""
    ways = [("hall", "left"), ("left", "hall"), ("hall", "right"), ("right", "hall")]
    gives = [("hall", [], ["a", "b"]), ("left", [], ["a", "ain"]), ("right", [], ["b", "bin"])]
    return Site([
        single("base", ["hall", "left", "right"], ways, gives),
        many("one", ["in", "on"], [("in", "on")], [("in", ["ain"], []), ("on", ["a"], [])]),
        many("two", ["in", "on"], [("in", "on")], [("in", ["bin"], []), ("on", ["b"], [])]),
    ])


def shown(example):
    """Run an example of the document; return what it shows last and what it should show."""
    names, result = {}, None
    rows = [row for row in example.strip().split("\n")]
    code = [row[4:] for row in rows if row.startswith(">>> ")]
    for row in code[:-1]:
        exec(row, names)
    try:
        result = repr(eval(code[-1], names))
    except ValueError as error:
        result = "raises " + told(error)
    return result, rows[-1]
