"""The examples of the document, as they stand there, and those of README.md."""

import doctest
import pathlib
import unittest

from tests.helpers import shown

ROOT = pathlib.Path(__file__).resolve().parent.parent

EXAMPLES = [
    """
>>> from soundyard.kinds import Many
>>> app = Many("app", ["idle", "up"])
>>> app.row()
'app: idle, up (any number)'
""",
    """
>>> from soundyard.kinds import Single
>>> base = Single("base", ["old", "mid", "new"])
>>> base.allow("old", "new")
>>> base.allow("old", "mid")
>>> base.steps_from("old")
('mid', 'new')
""",
    """
>>> from soundyard.kinds import Single
>>> base = Single("base", ["old", "new"])
>>> base.allow("old", "old")
raises NoStep(before='old', after='old')
""",
    """
>>> from soundyard.lots import Lot
>>> one = Lot([("app", "up", 2), ("app", "idle", 1)])
>>> list(3 * one + Lot.one("app", "up"))
[('app', 'up', 7), ('app', 'idle', 3)]
""",
    """
>>> from soundyard.lots import Lot
>>> one = Lot([("app", "up", 2), ("app", "idle", 1)])
>>> one - Lot([("app", "up", 3)])
raises Lacking(kind='app', standing='up')
""",
    """
>>> from soundyard.lots import Hold
>>> one = Hold([("app", "up")])
>>> list(one | Hold([("app", "idle"), ("app", "up")]))
[('app', 'up'), ('app', 'idle')]
""",
    """
>>> from soundyard.kinds import Many, Single
>>> from soundyard.lots import Hold
>>> from soundyard.sites import Site
>>> site = Site([Single("base", ["old", "new"]), Many("app", ["idle", "up"])])
>>> site.present(("new",), Hold([("app", "up")]))
(('base', 'new'), ('app', 'up'))
""",
    """
>>> from soundyard.kinds import Many, Single
>>> from soundyard.lots import Lot
>>> from soundyard.sites import Site
>>> from soundyard.yards import Yard
>>> site = Site([Single("base", ["old", "new"]), Many("app", ["idle", "up"])])
>>> yard = Yard(site, ("old",), Lot())
>>> yard.put("app", 12000)
>>> yard.table()
['base         old                       one', 'app          idle                   12,000']
""",
    """
>>> from soundyard.kinds import Single
>>> from soundyard.lots import Hold
>>> from soundyard.sites import Site
>>> from soundyard.webs import Web
>>> base = Single("base", ["old", "mid", "new"])
>>> base.allow("old", "mid")
>>> base.allow("mid", "new")
>>> web = Web(Site([base]))
>>> web.fewest(("new",), Hold())
2
""",
    """
>>> from soundyard.kinds import Single
>>> from soundyard.sites import Site
>>> from soundyard.webs import Web
>>> base = Single("base", ["old", "mid", "new"])
>>> base.allow("old", "new")
>>> web = Web(Site([base]))
>>> web.never()
[('base', 'mid')]
""",
]


class ExamplesTest(unittest.TestCase):
    def test_each_example_of_the_document(self):
        for example in EXAMPLES:
            with self.subTest(example=example):
                result, expected = shown(example)
                self.assertEqual(result, expected)

    def test_the_examples_of_the_readme(self):
        failed, tried = doctest.testfile(str(ROOT / "README.md"), module_relative=False)
        self.assertGreater(tried, 0)
        self.assertEqual(failed, 0)


if __name__ == "__main__":
    unittest.main()
