"""Yards and their deeds (points 2, 4 and 8 to 10 of the document, and soundyard/yards.py of its interface)."""

import unittest

from soundyard.errors import BadCount, Lacking, NoStep, Unknown
from soundyard.lots import Lot
from soundyard.sites import Site
from soundyard.yards import Yard
from tests.helpers import HUGE, LONG, Case, example_kinds, many, single

UP, IDLE = ("app", "up"), ("app", "idle")


def plain():
    """A site without needs: many kinds beside a single kind, all with steps."""
    return Site([
        many("app", ["idle", "up", "hot"], [("idle", "up"), ("up", "hot")]),
        single("base", ["old", "mid", "new"], [("old", "mid"), ("mid", "new"), ("old", "new")], [("mid", [], ["m"])]),
        many("next", ["on"], []),
        single("user", ["on"]),
    ])


def plain_yard():
    return Yard(plain(), ("old", "on"), Lot([("next", "on", 4), ("app", "up", 5), ("app", "idle", 2)]))


def example_yard(*rows):
    return Yard(Site(example_kinds()), ("old", "on"), Lot([("app", "up", 1), *rows]))


def state(yard):
    return yard.placed(), list(yard)


class YardCase(Case):
    def unchanged(self, yard):
        """Return a context that checks that the yard is in the end as it was in the beginning."""
        return Unchanged(self, yard)


class Unchanged:
    def __init__(self, case, yard):
        self.case, self.yard = case, yard

    def __enter__(self):
        self.before = state(self.yard)

    def __exit__(self, kind, value, trace):
        if kind is None:
            self.case.assertEqual(state(self.yard), self.before)


class MakingTest(YardCase):
    def test_the_words(self):
        self.assertEqual(Yard.WORDS, ("put", "step", "take", "leave", "move"))
        self.assertEqual(plain_yard().WORDS, Yard.WORDS)

    def test_rows_are_in_the_order_of_the_site(self):
        yard = plain_yard()
        expected = [("app", "idle", 2), ("app", "up", 5), ("next", "on", 4)]
        self.assertEqual(list(yard), expected)
        self.assertEqual([(kind, standing, count) for kind, standing, count in yard], expected)
        self.assertEqual(list(yard.lot), expected)

    def test_the_places(self):
        self.assertEqual(plain_yard().placed(), ("old", "on"))
        self.assertEqual((plain_yard()["base"], plain_yard()["user"]), ("old", "on"))

    def test_a_strange_single_kind(self):
        for name in ("app", "none", "old"):
            self.refused(Unknown(name), lambda: plain_yard()[name])

    def test_open_doors(self):
        yard = example_yard()
        for door, expected in (("d1", True), ("page", True), ("d2", False), ("none", False), ("base", False)):
            self.assertIs(door in yard, expected)
        yard.put("app")
        self.assertIs("d1" in yard, True)
        closed = plain_yard()
        self.assertIs("m" in closed, False)
        closed["base"] = "mid"
        self.assertIs("m" in closed, True)

    def test_the_lot_is_copied_and_stays_as_it_was(self):
        lot = Lot([("next", "on", 4), ("app", "up", 5)])
        yard = Yard(plain(), ("old", "on"), lot)
        lot += Lot.one("app", "hot")
        lot -= Lot([("next", "on", 4)])
        self.assertEqual(list(yard), [("app", "up", 5), ("next", "on", 4)])
        yard.put("app", 7)
        self.assertEqual(list(lot), [("app", "up", 5), ("app", "hot", 1)])

    def test_a_kind_that_is_changed_later_does_not_change_the_yard(self):
        kinds = example_kinds()
        yard = Yard(Site(kinds), ("old", "on"), Lot.one("app", "up"))
        kinds[0].allow("new", "old")
        kinds[1]["up"] = (["none"], [])
        yard.put("app")
        self.assertIs("page" in yard, True)

    def test_the_returned_lot_is_a_new_one(self):
        yard = plain_yard()
        lot = yard.lot
        self.assertIsInstance(lot, Lot)
        self.assertIsNot(yard.lot, lot)
        with self.unchanged(yard):
            lot += Lot.one("app", "hot")
            lot -= Lot([("app", "up", 5)])
            list(yard).clear()
        self.assertIsInstance(Yard.lot, property)

    def test_unsound_yards_are_refused(self):
        site = Site(example_kinds())
        self.unmet(("user", "on", "page"), Yard, site, ("old", "on"), Lot())
        self.unmet(("next", "up", "d2"), Yard, site, ("old", "on"), Lot([("next", "up", 3), ("app", "up", 1)]))
        self.unmet(("app", "up", "d1"), Yard, site, ("new", "on"), Lot([("next", "up", 3), ("app", "up", 1)]))

    def test_names_are_checked_first(self):
        site = Site(example_kinds())
        rows = [("none", "up", 1), ("app", "off", 1)]
        self.refused(Unknown("mid"), Yard, site, ("mid", "off"), Lot(rows))
        self.refused(Unknown("off"), Yard, site, ("old", "off"), Lot(rows))
        self.refused(Unknown("none"), Yard, site, ("old", "on"), Lot(rows))
        self.refused(Unknown("off"), Yard, site, ("old", "on"), Lot(rows[::-1]))
        self.refused(Unknown("base"), Yard, site, ("old", "on"), Lot([("base", "old", 1)]))

    def test_sites_without_kinds_single_kinds_or_many_kinds(self):
        empty = Yard(Site([]), (), Lot())
        self.assertEqual((state(empty), empty.lot == Lot(), empty.table()), (((), []), True, []))
        empty.take(Lot())
        empty.leave(Lot())
        self.refused(Unknown("app"), empty.put, "app")
        copies = Yard(Site([many("app", ["up"])]), (), Lot())
        copies.put("app", 2)
        self.assertEqual(state(copies), ((), [("app", "up", 2)]))
        alone = Yard(Site([single("base", ["old", "new"], [("old", "new")])]), ("old",), Lot())
        alone["base"] = "new"
        self.assertEqual(state(alone), (("new",), []))

    def test_counts_of_any_size(self):
        yard = Yard(plain(), ("old", "on"), Lot([("app", "idle", HUGE)]))
        yard.put("app", HUGE)
        yard.step("app", "idle", "up", 2 * HUGE - 1)
        yard.take(Lot([("app", "up", HUGE)]))
        self.assertEqual(list(yard), [("app", "idle", 1), ("app", "up", HUGE - 1)])
        self.refused(Lacking("app", "up"), yard.take, Lot([("app", "up", HUGE)]))
        yard.put("app", LONG)
        self.assertEqual(yard.lot["app", "idle"], LONG + 1)

    def test_a_copy_is_apart(self):
        yard = plain_yard()
        other = yard.copy()
        self.assertIsInstance(other, Yard)
        self.assertEqual(state(other), state(yard))
        with self.unchanged(yard):
            other["base"] = "mid"
            other.take(Lot([("app", "up", 5)]))
        with self.unchanged(other):
            yard.put("app")
            yard["base"] = "new"
        self.assertEqual(state(other), (("mid", "on"), [("app", "idle", 2), ("next", "on", 4)]))


class PutTest(YardCase):
    def test_copies_begin_at_the_first_standing(self):
        yard = plain_yard()
        self.assertIsNone(yard.put("app", 3))
        self.assertIsNone(yard.put("next"))
        self.assertEqual(list(yard), [("app", "idle", 5), ("app", "up", 5), ("next", "on", 5)])
        yard.put(kind="app", count=1)
        self.assertEqual(yard.lot["app", "idle"], 6)

    def test_the_errors_in_their_order(self):
        site = Site([single("base", ["on"]), many("app", ["up"], [], [("up", ["x", "y"], [])])])
        yard = Yard(site, ("on",), Lot())
        with self.unchanged(yard):
            for name in ("none", "base", "up"):
                self.refused(Unknown(name), yard.put, name, 0)
            self.refused(BadCount(0), yard.put, "app", 0)
            self.refused(BadCount(-LONG), yard.put, "app", -LONG)
            self.unmet(("app", "up", "x"), yard.put, "app")


class StepTest(YardCase):
    def test_copies_move_along_one_step(self):
        yard = plain_yard()
        self.assertIsNone(yard.step("app", "up", "hot", 2))
        self.assertEqual(list(yard), [("app", "idle", 2), ("app", "up", 3), ("app", "hot", 2), ("next", "on", 4)])
        yard.step("app", "up", "hot")
        yard.step("app", "idle", "up", 2)
        self.assertEqual(list(yard), [("app", "up", 4), ("app", "hot", 3), ("next", "on", 4)])
        yard.step(kind="app", before="up", after="hot", count=4)
        self.assertEqual(list(yard), [("app", "hot", 7), ("next", "on", 4)])

    def test_the_errors_in_their_order(self):
        yard = plain_yard()
        with self.unchanged(yard):
            self.refused(Unknown("base"), yard.step, "base", "old", "mid", 1)
            self.refused(Unknown("none"), yard.step, "none", "x", "y", 0)
            self.refused(Unknown("x"), yard.step, "app", "x", "y", 0)
            self.refused(Unknown("y"), yard.step, "app", "hot", "y", 0)
            self.refused(NoStep("hot", "up"), yard.step, "app", "hot", "up", 0)
            self.refused(NoStep("idle", "hot"), yard.step, "app", "idle", "hot", 9)
            self.refused(NoStep("up", "up"), yard.step, "app", "up", "up", 9)
            self.refused(BadCount(0), yard.step, "app", "up", "hot", 0)
            self.refused(BadCount(-3), yard.step, "app", "idle", "up", -3)
            self.refused(Lacking("app", "up"), yard.step, "app", "up", "hot", 6)
        empty = Yard(plain(), ("old", "on"), Lot())
        self.refused(BadCount(0), empty.step, "app", "up", "hot", 0)
        self.refused(Lacking("app", "up"), empty.step, "app", "up", "hot", 1)

    def test_unmet_needs_come_last(self):
        yard = example_yard(("next", "idle", 2))
        with self.unchanged(yard):
            self.refused(Lacking("next", "idle"), yard.step, "next", "idle", "up", 3)
            self.unmet(("next", "up", "d2"), yard.step, "next", "idle", "up", 2)

    def test_only_the_pair_after_the_deed_counts(self):
        site = Site([many("app", ["a", "b"], [("a", "b")], [("a", [], ["x"]), ("b", ["x"], [])])])
        yard = Yard(site, (), Lot([("app", "a", 3)]))
        yard.step("app", "a", "b", 2)
        with self.unchanged(yard):
            self.unmet(("app", "b", "x"), yard.step, "app", "a", "b", 1)


class TakeTest(YardCase):
    def test_all_copies_go_at_once(self):
        site = Site([many("app", ["a"], [], [("a", ["y"], ["x"])]), many("next", ["a"], [], [("a", ["x"], ["y"])])])
        yard = Yard(site, (), Lot([("next", "a", 2), ("app", "a", 3)]))
        with self.unchanged(yard):
            self.unmet(("next", "a", "x"), yard.take, Lot([("app", "a", 3)]))
            self.unmet(("app", "a", "y"), yard.take, Lot([("next", "a", 2)]))
        self.assertIsNone(yard.take(Lot([("app", "a", 2), ("next", "a", 1)])))
        self.assertEqual(list(yard), [("app", "a", 1), ("next", "a", 1)])
        yard.take(Lot([("next", "a", 1), ("app", "a", 1)]))
        self.assertEqual(list(yard), [])

    def test_the_empty_lot_and_the_whole_lot(self):
        yard = plain_yard()
        with self.unchanged(yard):
            self.assertIsNone(yard.take(Lot()))
        yard.take(yard.lot)
        self.assertEqual(state(yard), (("old", "on"), []))
        yard.take(Lot())

    def test_the_errors_in_their_order(self):
        yard = example_yard(("app", "idle", 2))
        with self.unchanged(yard):
            self.refused(Unknown("none"), yard.take, Lot([("app", "up", 9), ("none", "up", 1), ("app", "off", 1)]))
            self.refused(Unknown("off"), yard.take, Lot([("app", "up", 9), ("app", "off", 1), ("none", "up", 1)]))
            self.refused(Unknown("base"), yard.take, Lot([("base", "old", 1)]))
            self.refused(Lacking("next", "up"), yard.take, Lot([("app", "idle", 2), ("next", "up", 1), ("app", "up", 2)]))
            self.refused(Lacking("app", "up"), yard.take, Lot([("app", "up", 2), ("app", "idle", 3)]))
            self.refused(Lacking("app", "idle"), yard.take, Lot([("app", "idle", 3), ("app", "up", 2)]))
            self.unmet(("user", "on", "page"), yard.take, Lot([("app", "up", 1)]))

    def test_the_given_lot_stays_as_it_was(self):
        yard, lot = plain_yard(), Lot([("next", "on", 1), ("app", "up", 2)])
        yard.take(lot)
        self.assertEqual(list(lot), [("next", "on", 1), ("app", "up", 2)])
        lot += Lot.one("app", "up")
        self.assertEqual(list(yard), [("app", "idle", 2), ("app", "up", 3), ("next", "on", 3)])


class LeaveTest(YardCase):
    def test_only_the_given_copies_remain(self):
        yard = plain_yard()
        self.assertIsNone(yard.leave(Lot([("next", "on", 4), ("app", "up", 2)])))
        self.assertEqual(list(yard), [("app", "up", 2), ("next", "on", 4)])

    def test_assigning_to_the_lot_does_the_same(self):
        yard = plain_yard()
        yard.lot = Lot([("next", "on", 4), ("app", "up", 2)])
        self.assertEqual(list(yard), [("app", "up", 2), ("next", "on", 4)])
        yard.lot -= Lot.one("app", "up")
        self.assertEqual(list(yard), [("app", "up", 1), ("next", "on", 4)])

        def assign(rows):
            yard.lot = Lot(rows)
        with self.unchanged(yard):
            self.refused(Lacking("app", "up"), assign, [("app", "up", 2)])
            self.refused(Unknown("none"), assign, [("app", "up", 2), ("none", "up", 1)])

    def test_the_empty_lot_and_the_whole_lot(self):
        yard = plain_yard()
        with self.unchanged(yard):
            yard.leave(yard.lot)
        self.assertIsNone(yard.leave(Lot()))
        self.assertEqual(state(yard), (("old", "on"), []))
        yard.leave(Lot())
        self.assertEqual(list(yard), [])

    def test_the_errors_in_their_order(self):
        yard = example_yard(("app", "idle", 2))
        with self.unchanged(yard):
            self.refused(Unknown("none"), yard.leave, Lot([("app", "up", 9), ("none", "up", 1), ("app", "off", 1)]))
            self.refused(Unknown("off"), yard.leave, Lot([("app", "up", 9), ("app", "off", 1), ("none", "up", 1)]))
            self.refused(Unknown("user"), yard.leave, Lot([("user", "on", 1)]))
            self.refused(Lacking("next", "up"), yard.leave, Lot([("app", "idle", 2), ("next", "up", 1), ("app", "up", 2)]))
            self.refused(Lacking("app", "idle"), yard.leave, Lot([("app", "idle", 3), ("app", "up", 2)]))
            self.unmet(("user", "on", "page"), yard.leave, Lot([("app", "idle", 2)]))
            self.unmet(("user", "on", "page"), yard.leave, Lot())

    def test_the_given_lot_stays_as_it_was(self):
        yard, lot = plain_yard(), Lot([("next", "on", 1), ("app", "up", 2)])
        yard.leave(lot)
        self.assertEqual(list(lot), [("next", "on", 1), ("app", "up", 2)])
        lot += Lot.one("app", "up")
        self.assertEqual(list(yard), [("app", "up", 2), ("next", "on", 1)])
        yard.put("app")
        self.assertEqual(list(lot), [("next", "on", 1), ("app", "up", 3)])


class MoveTest(YardCase):
    def test_the_part_moves_along_one_step(self):
        yard = plain_yard()
        lot = yard.lot
        yard["base"] = "mid"
        self.assertEqual((yard["base"], yard.placed()), ("mid", ("mid", "on")))
        yard["base"] = "new"
        self.assertEqual(yard.placed(), ("new", "on"))
        self.assertIs(yard.lot == lot, True)

    def test_the_right_one_of_several_moves(self):
        kinds = [single(name, ["a", "b"], [("a", "b")]) for name in ("x", "y", "z")]
        yard = Yard(Site(kinds), ("a", "a", "a"), Lot())
        yard["y"] = "b"
        self.assertEqual(yard.placed(), ("a", "b", "a"))

    def test_the_errors_in_their_order(self):
        yard = example_yard()
        move = yard.__setitem__
        with self.unchanged(yard):
            for name in ("none", "app", "old"):
                self.refused(Unknown(name), move, name, "x")
            self.refused(Unknown("up"), move, "base", "up")
            self.refused(NoStep("old", "old"), move, "base", "old")
            self.refused(NoStep("on", "on"), move, "user", "on")
            self.unmet(("app", "up", "d1"), move, "base", "new")
        yard = plain_yard()
        yard["base"] = "new"
        self.refused(NoStep("new", "old"), yard.__setitem__, "base", "old")

    def test_only_the_pair_after_the_move_counts(self):
        site = Site([single("base", ["a", "b"], [("a", "b")], [("a", [], ["x"]), ("b", [], ["x"])]),
                     many("app", ["up"], [], [("up", ["x"], [])])])
        yard = Yard(site, ("a",), Lot.one("app", "up"))
        yard["base"] = "b"
        self.assertEqual(state(yard), (("b",), [("app", "up", 1)]))

    def test_a_standing_that_meets_its_own_need(self):
        site = Site([single("base", ["a", "b"], [("a", "b")], [("b", ["x"], ["x"])])])
        yard = Yard(site, ("a",), Lot())
        yard["base"] = "b"
        self.assertEqual(yard.placed(), ("b",))


if __name__ == "__main__":
    unittest.main()
