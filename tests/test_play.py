"""Plays, trials and tables of yards (points 9, 10 and 19 of the document, and soundyard/yards.py of its interface)."""

import unittest

from soundyard.errors import BadCount, Lacking, NoStep, Unknown
from soundyard.lots import Lot
from soundyard.sites import Site
from soundyard.yards import Trial, Yard
from tests.helpers import HUGE, Case, example_kinds, many, single
from tests.test_yards import YardCase, example_yard, plain_yard, state


class PlayTest(YardCase):
    def test_each_deed_by_its_word(self):
        yard = plain_yard()
        self.assertIsNone(yard.play(("put", "app", 3)))
        self.assertEqual(yard.lot["app", "idle"], 5)
        yard.play(("step", "app", "idle", "up", 4), ("move", "base", "mid"))
        self.assertEqual(state(yard), (("mid", "on"), [("app", "idle", 1), ("app", "up", 9), ("next", "on", 4)]))
        yard.play(("take", (("next", "on", 4), ("app", "up", 2), ("app", "up", 1))))
        self.assertEqual(list(yard), [("app", "idle", 1), ("app", "up", 6)])
        yard.play(("leave", (("app", "up", 2), ("app", "up", 1))), ("move", "base", "new"))
        self.assertEqual(state(yard), (("new", "on"), [("app", "up", 3)]))
        yard.play(("take", ()), ("leave", ()))
        self.assertEqual(list(yard), [])

    def test_no_deeds(self):
        yard = plain_yard()
        with self.unchanged(yard):
            self.assertIsNone(yard.play())

    def test_the_plan_of_the_example(self):
        yard = Yard(Site(example_kinds()).offered(("base", "old", "d2")), ("old", "on"), Lot.one("app", "up"))
        yard.play(("put", "next", 3), ("step", "next", "idle", "up", 3), ("leave", (("next", "up", 3),)),
                  ("move", "base", "new"))
        self.assertEqual(state(yard), (("new", "on"), [("next", "up", 3)]))

    def test_a_refused_third_deed_puts_everything_back(self):
        yard = example_yard(("app", "idle", 2))
        begin = (("put", "next", 3), ("step", "app", "idle", "up", 2))
        with self.unchanged(yard):
            self.unmet(("app", "up", "d1"), yard.play, *begin, ("move", "base", "new"), ("put", "app", 1))
            self.unmet(("user", "on", "page"), yard.play, *begin, ("leave", ()))
            self.refused(Lacking("next", "up"), yard.play, *begin, ("take", (("next", "up", 1),)))
            self.refused(BadCount(0), yard.play, *begin, ("put", "app", 0))
        other = plain_yard()
        with self.unchanged(other):
            self.refused(NoStep("mid", "old"), other.play, ("move", "base", "mid"), ("leave", ()), ("move", "base", "old"))

    def test_each_error_of_a_deed(self):
        yard = plain_yard()
        cases = [
            (Unknown("none"), ("put", "none", 0)), (BadCount(0), ("put", "app", 0)),
            (Unknown("x"), ("step", "app", "x", "y", 0)), (NoStep("hot", "up"), ("step", "app", "hot", "up", 0)),
            (BadCount(-1), ("step", "app", "up", "hot", -1)), (Lacking("app", "up"), ("step", "app", "up", "hot", 6)),
            (Unknown("none"), ("take", (("app", "up", 6), ("none", "up", 1)))),
            (Lacking("app", "up"), ("take", (("app", "up", 6),))),
            (Unknown("none"), ("leave", (("app", "up", 6), ("none", "up", 1)))),
            (Lacking("app", "up"), ("leave", (("app", "up", 6),))),
            (Unknown("app"), ("move", "app", "x")), (Unknown("x"), ("move", "base", "x")),
            (NoStep("old", "old"), ("move", "base", "old")),
        ]
        with self.unchanged(yard):
            for expected, deed in cases:
                self.refused(expected, yard.play, deed)
                self.refused(expected, yard.play, ("put", "app", 1), deed, ("nothing",))

    def test_a_bad_count_comes_before_strange_names(self):
        yard = plain_yard()
        for word in ("take", "leave"):
            self.refused(BadCount(0), yard.play, (word, (("none", "up", 1), ("app", "up", 0), ("app", "up", -1))))

    def test_another_word(self):
        yard = plain_yard()
        with self.unchanged(yard):
            self.refused(Unknown("swap"), yard.play, ("put", "app", 1), ("swap", "app", 1))
            self.refused(Unknown("lot"), yard.play, ("lot", ()))
            self.refused(Unknown("copy"), yard.play, ("copy",))

    def test_later_deeds_are_not_looked_at_before(self):
        yard = plain_yard()
        with self.unchanged(yard):
            self.refused(Lacking("app", "hot"), yard.play, ("take", (("app", "hot", 1),)), ("swap",))
            self.refused(BadCount(0), yard.play, ("put", "app", 0), ("take", (("app", "up", -1),)))
            self.refused(Unknown("swap"), yard.play, ("swap",), ("take", (("app", "up", -1),)))
            self.refused(BadCount(-1), yard.play, ("take", (("app", "up", -1),)), ("swap",))

    def test_each_deed_sees_the_ones_before_it(self):
        yard = plain_yard()
        yard.play(("move", "base", "mid"), ("move", "base", "new"), ("step", "app", "up", "hot", 5),
                  ("take", (("app", "hot", 5),)))
        self.assertEqual(state(yard), (("new", "on"), [("app", "idle", 2), ("next", "on", 4)]))

    def test_the_deeds_stay_as_they_were(self):
        deeds = [("put", "app", 1), ("take", (("app", "up", 2),))]
        plain_yard().play(*deeds)
        self.assertEqual(deeds, [("put", "app", 1), ("take", (("app", "up", 2),))])


class TrialTest(YardCase):
    def test_a_block_that_ends_well_keeps_its_deeds(self):
        yard = plain_yard()
        trial = yard.trial()
        self.assertIsInstance(trial, Trial)
        with trial as same:
            self.assertIs(same, yard)
            yard.put("app", 1)
            same["base"] = "mid"
        self.assertEqual(state(yard), (("mid", "on"), [("app", "idle", 3), ("app", "up", 5), ("next", "on", 4)]))

    def test_an_error_of_the_program_puts_the_yard_back_and_goes_on(self):
        yard = plain_yard()

        def block():
            with yard.trial():
                yard["base"] = "mid"
                yard.leave(Lot())
                yard.put("app", 0)
        with self.unchanged(yard):
            self.refused(BadCount(0), block)
        yard.put("app", 1)
        self.assertEqual(list(yard)[0], ("app", "idle", 3))

    def test_an_exception_of_another_kind_does_so_too(self):
        yard = plain_yard()
        for shape in (ZeroDivisionError, KeyError, KeyboardInterrupt, GeneratorExit, SystemExit, BaseException):
            wrong = shape("wrong")
            with self.unchanged(yard):
                with self.assertRaises(shape) as caught:
                    with yard.trial() as same:
                        same["base"] = "new"
                        same.take(Lot([("next", "on", 4)]))
                        raise wrong
            self.assertIs(caught.exception, wrong)

    def test_an_error_that_is_caught_inside_the_block_is_none(self):
        yard = plain_yard()
        with yard.trial():
            yard["base"] = "mid"
            self.refused(NoStep("mid", "old"), yard.__setitem__, "base", "old")
        self.assertEqual(yard.placed(), ("mid", "on"))

    def test_leaving_the_block_early_is_no_exception(self):
        yard = plain_yard()

        def block():
            with yard.trial():
                yard.put("app", 1)
                return "early"
        self.assertEqual(block(), "early")
        self.assertEqual(yard.lot["app", "idle"], 3)

    def test_the_beginning_of_the_block_counts(self):
        yard = plain_yard()
        trial = yard.trial()
        yard["base"] = "mid"
        yard.put("app", 1)
        with self.unchanged(yard):
            with self.assertRaises(ZeroDivisionError), trial:
                yard["base"] = "new"
                yard.leave(Lot())
                raise ZeroDivisionError

    def test_a_trial_may_be_used_again(self):
        yard = plain_yard()
        trial = yard.trial()
        with trial:
            yard.put("app", 1)
        with self.assertRaises(ZeroDivisionError), trial:
            yard.leave(Lot())
            raise ZeroDivisionError
        self.assertEqual(list(yard), [("app", "idle", 3), ("app", "up", 5), ("next", "on", 4)])

    def blocks_in_blocks(self, yard, outer, inner):
        with self.unchanged(yard):
            with self.assertRaises(KeyError), outer:
                yard.put("app", 1)
                before = state(yard)
                with self.assertRaises(ZeroDivisionError), inner:
                    yard["base"] = "mid"
                    yard.leave(Lot())
                    raise ZeroDivisionError
                self.assertEqual(state(yard), before)
                with inner:
                    yard.put("next", 1)
                self.assertEqual(yard.lot["next", "on"], 5)
                raise KeyError

    def test_blocks_in_blocks(self):
        yard = plain_yard()
        self.blocks_in_blocks(yard, yard.trial(), yard.trial())
        trial = yard.trial()
        self.blocks_in_blocks(yard, trial, trial)

    def test_a_play_in_a_block(self):
        yard = plain_yard()
        with self.assertRaises(KeyError), yard.trial():
            yard.play(("move", "base", "mid"), ("put", "app", 1))
            self.refused(Unknown("swap"), yard.play, ("leave", ()), ("swap",))
            self.assertEqual((yard["base"], yard.lot["app", "idle"]), ("mid", 3))
            raise KeyError
        self.assertEqual((yard["base"], yard.lot["app", "idle"]), ("old", 2))

    def test_a_copy_is_not_put_back(self):
        yard = plain_yard()
        other = yard.copy()
        with self.assertRaises(KeyError), yard.trial():
            other.put("app", 1)
            raise KeyError
        self.assertEqual((other.lot["app", "idle"], yard.lot["app", "idle"]), (3, 2))

    def test_a_loop_over_a_yard_may_play_deeds(self):
        yard = plain_yard()
        for kind, standing, count in yard:
            yard.take(Lot([(kind, standing, count)]))
        self.assertEqual(list(yard), [])


class TableTest(Case):
    def test_each_present_standing_has_a_row(self):
        yard = plain_yard()
        self.assertEqual(yard.table(), [
            "app          idle                        2",
            "app          up                          5",
            "base         old                       one",
            "next         on                          4",
            "user         on                        one",
        ])

    def test_the_columns(self):
        name = "abcdefghijkl"
        yard = Yard(Site([many(name, [name]), single("a", [name])]), (name,), Lot([(name, name, 1234567890123)]))
        self.assertEqual(yard.table(), [
            "abcdefghijkl abcdefghijkl 1,234,567,890,123",
            "a            abcdefghijkl              one",
        ])

    def test_counts_have_commas_and_are_not_cut(self):
        yard = Yard(Site([many("app", ["up"])]), (), Lot([("app", "up", 1)]))
        for count, expected in ((1, "               1"), (999, "             999"), (1000, "           1,000"),
                                (999999999999, " 999,999,999,999"), (1000000000000, "1,000,000,000,000"),
                                (HUGE, "100,000,000,000,000,000,000,000,000,007")):
            yard.play(("leave", ()), ("put", "app", count))
            self.assertEqual(yard.table(), ["app          up           " + expected])

    def test_sixty_digits(self):
        yard = Yard(Site([many("app", ["up"])]), (), Lot([("app", "up", 10 ** 60 - 1)]))
        self.assertEqual(yard.table(), ["app          up           " + ",".join(["999"] * 20)])

    def test_an_empty_yard_and_a_new_list_each_time(self):
        yard = Yard(Site([many("app", ["up"])]), (), Lot())
        self.assertEqual(yard.table(), [])
        yard.table().append("more")
        self.assertEqual(yard.table(), [])


if __name__ == "__main__":
    unittest.main()
