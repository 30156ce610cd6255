"""What several test files need."""

import unittest

HUGE = 10 ** 29 + 7
# Python refuses to write an integer of this length in digits, so no text may contain it.
LONG = 10 ** 6000


def told(error):
    """Return an error as the document writes it: its class and its fields in order."""
    fields = ", ".join(f"{name}={worth!r}" for name, worth in vars(error).items())
    return f"{type(error).__name__}({fields})"


class Case(unittest.TestCase):
    def refused(self, expected, action, *given):
        """Check that the action raises exactly the expected error, with the fields of it."""
        with self.assertRaises(type(expected)) as caught:
            action(*given)
        self.assertIs(type(caught.exception), type(expected))
        self.assertEqual(vars(caught.exception), vars(expected))


def shown(example):
    """Run an example of the document; return what it shows last and what it should show."""
    names, result = {}, None
    rows = [row for row in example.strip().split("\n")]
    code = [row[4:] for row in rows if row.startswith(">>> ")]
    for row in code[:-1]:
        exec(row, names)
    try:
        result = repr(eval(code[-1], names))
    except ValueError as error:
        result = "raises " + told(error)
    return result, rows[-1]
