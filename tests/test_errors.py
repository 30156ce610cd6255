"""The errors: their classes, fields and copies (soundyard/errors.py of the interface)."""

import itertools
import unittest

from soundyard import errors
from soundyard.lots import Hold
from tests.helpers import LONG

MADE = {
    "Repeated": (("app",), ["name"]),
    "Unknown": (("app",), ["name"]),
    "NoStep": (("old", "new"), ["before", "after"]),
    "BadCount": ((-3,), ["count"]),
    "Lacking": (("app", "up"), ["kind", "standing"]),
    "Shut": (("d1",), ["door"]),
    "Unmet": (("app", "up", "d1"), ["kind", "standing", "door"]),
    "Never": (([(("old",), Hold())],), ["closed"]),
}


class ErrorsTest(unittest.TestCase):
    def test_the_base_class_is_a_value_error(self):
        self.assertTrue(issubclass(errors.YardError, ValueError))
        with self.assertRaises(errors.YardError):
            raise errors.YardError("a text")

    def test_each_error_has_its_fields_by_position_and_by_keyword(self):
        for name, (given, fields) in MADE.items():
            expected = dict(zip(fields, given))
            shape = getattr(errors, name)
            with self.subTest(name=name):
                self.assertEqual(vars(shape(*given)), expected)
                self.assertEqual(vars(shape(**expected)), expected)

    def test_each_error_is_a_yard_error_and_none_is_another(self):
        shapes = [getattr(errors, name) for name in MADE]
        for shape in shapes:
            self.assertTrue(issubclass(shape, errors.YardError))
        for one, other in itertools.permutations(shapes, 2):
            self.assertFalse(issubclass(one, other), (one, other))

    def test_each_error_can_be_raised_caught_and_shown(self):
        for name, (given, _) in MADE.items():
            with self.subTest(name=name):
                with self.assertRaises(errors.YardError) as caught:
                    raise getattr(errors, name)(*given)
                self.assertNotEqual(str(caught.exception), "")

    def test_a_count_too_long_to_write_can_be_shown(self):
        error = errors.BadCount(-LONG)
        self.assertEqual(error.count, -LONG)
        self.assertIsInstance(str(error), str)

    def test_never_keeps_a_copy_of_its_list(self):
        pair = (("old",), Hold([("app", "up")]))
        closed = [pair]
        error = errors.Never(closed)
        self.assertIsInstance(error.closed, list)
        self.assertEqual(error.closed, [pair])
        closed.append((("new",), Hold()))
        self.assertEqual(error.closed, [pair])
        error.closed.clear()
        self.assertEqual(len(closed), 2)

    def test_never_takes_an_empty_list(self):
        self.assertEqual(errors.Never([]).closed, [])


if __name__ == "__main__":
    unittest.main()
