"""Plans (points 2, 9, 10 and 17, and soundyard/plans.py of the interface)."""

import unittest

from soundyard.errors import BadCount, Lacking, NoStep, Unknown, Unmet
from soundyard.lots import Lot
from soundyard.plans import Plan, same_end
from soundyard.sites import Site
from soundyard.yards import Yard
from tests.helpers import HUGE, Case, example_kinds

UP = ("app", "up", 1)
SWITCH = [("put", "app", 3), ("step", "app", "idle", "up", 1), ("take", (("app", "idle", 1),))]


def example_yard(rows=(UP,)):
    return Yard(Site(example_kinds()), ("old", "on"), Lot(rows))


def state(yard):
    return (yard.placed(), list(yard))


class PlanTest(Case):
    def test_the_start_is_a_new_lot_each_time(self):
        plan = Plan(Lot([UP, ("next", "idle", HUGE)]), [])
        self.assertIsInstance(plan.start, Lot)
        self.assertEqual(plan.start, Lot([("next", "idle", HUGE), UP]))
        one = plan.start
        self.assertIsNot(one, plan.start)
        one += Lot([UP])
        self.assertEqual(plan.start["app", "up"], 1)
        self.assertEqual(one["app", "up"], 2)

    def test_a_plan_with_nothing_in_it(self):
        plan, yard = Plan(Lot(), []), example_yard()
        self.assertEqual(plan.start, Lot())
        self.assertEqual((list(plan), len(plan), plan.moves), ([], 0, 0))
        self.assertIsNone(plan(yard))
        self.assertEqual(state(yard), (("old", "on"), [UP]))

    def test_the_deeds_in_order(self):
        plan = Plan(Lot([UP]), SWITCH)
        self.assertEqual(list(plan), SWITCH)
        self.assertEqual(list(plan), SWITCH)
        self.assertEqual(len(plan), 3)
        self.assertEqual([(one, other) for one in plan for other in plan][3:5],
                         [(SWITCH[1], SWITCH[0]), (SWITCH[1], SWITCH[1])])

    def test_the_number_of_its_move_deeds(self):
        self.assertEqual(Plan(Lot(), SWITCH).moves, 0)
        deeds = [("move", "base", "new"), ("put", "move", 1), ("take", (("move", "move", 1),)), ("move", "a", "b")]
        self.assertEqual(Plan(Lot(), deeds).moves, 2)

    def test_later_changes_to_the_arguments_do_not_change_it(self):
        lot, deeds = Lot([UP]), list(SWITCH)
        plan = Plan(lot, deeds)
        lot += Lot([UP])
        deeds[0] = ("move", "base", "new")
        deeds.append(("move", "base", "new"))
        self.assertEqual(plan.start, Lot([UP]))
        self.assertEqual(list(plan), SWITCH)
        self.assertEqual((len(plan), plan.moves), (3, 0))
        list(plan).clear()
        self.assertEqual(len(plan), 3)

    def test_it_does_not_change_its_arguments(self):
        lot, deeds = Lot([UP]), list(SWITCH)
        Plan(lot, deeds)(example_yard())
        self.assertEqual((list(lot), deeds), ([UP], SWITCH))


class CallTest(Case):
    def test_it_plays_its_deeds(self):
        yard = example_yard()
        self.assertIsNone(Plan(Lot([UP]), SWITCH)(yard))
        self.assertEqual(state(yard), (("old", "on"), [("app", "idle", 1), ("app", "up", 2)]))

    def test_it_can_be_played_again_and_on_other_yards(self):
        plan, yard, other = Plan(Lot([UP]), SWITCH), example_yard(), example_yard([("app", "up", HUGE)])
        plan(yard)
        plan(yard)
        plan(other)
        self.assertEqual(state(yard)[1], [("app", "idle", 2), ("app", "up", 3)])
        self.assertEqual(state(other)[1], [("app", "idle", 1), ("app", "up", HUGE + 1)])

    def test_all_deeds_or_none(self):
        yard = example_yard()
        for deed, expected in [
            (("step", "app", "up", "idle", 1), NoStep("up", "idle")),
            (("step", "app", "idle", "up", 2), Lacking("app", "idle")),
            (("put", "app", 0), BadCount(0)),
            (("take", (("app", "up", 5), ("next", "up", 0))), BadCount(0)),
            (("leave", (("app", "up", 5),)), Lacking("app", "up")),
            (("move", "app", "up"), Unknown("app")),
            (("jump", "base"), Unknown("jump")),
        ]:
            self.refused(expected, Plan(Lot(), SWITCH + [deed, ("hop",)]), yard)
            self.assertEqual(state(yard), (("old", "on"), [UP]), deed)
        self.unmet(("app", "up", "d1"), Plan(Lot(), SWITCH + [("move", "base", "new")]), yard)
        self.unmet(("user", "on", "page"), Plan(Lot(), SWITCH + [("leave", ())]), yard)
        self.assertEqual(state(yard), (("old", "on"), [UP]))

    def test_it_does_not_check_the_start(self):
        yard = example_yard()
        Plan(Lot([("app", "up", 99), ("next", "up", 1), ("none", "off", 1)]), SWITCH)(yard)
        self.assertEqual(state(yard)[1], [("app", "idle", 1), ("app", "up", 2)])


class SumTest(Case):
    def test_a_plan_after_another(self):
        first = Plan(Lot([UP]), SWITCH)
        second = Plan(Lot([("next", "up", 7)]), [("put", "next", 3), ("move", "base", "new")])
        both = first + second
        self.assertIsInstance(both, Plan)
        self.assertEqual(both.start, Lot([UP]))
        self.assertEqual(list(both), SWITCH + [("put", "next", 3), ("move", "base", "new")])
        self.assertEqual((len(both), both.moves), (5, 1))
        self.assertEqual((second + first).start, Lot([("next", "up", 7)]))
        self.assertEqual(list(second + first), list(second) + SWITCH)

    def test_the_parts_of_a_sum_stay_as_they_were(self):
        first, second = Plan(Lot([UP]), SWITCH), Plan(Lot(), [("move", "base", "new")])
        both = first + second
        both.start.__iadd__(Lot([UP]))
        self.assertEqual((list(first), first.moves, first.start), (SWITCH, 0, Lot([UP])))
        self.assertEqual((list(second), second.moves, second.start), ([("move", "base", "new")], 1, Lot()))
        self.assertEqual(both.start, Lot([UP]))

    def test_a_plan_after_itself_and_after_an_empty_one(self):
        plan, nothing = Plan(Lot([UP]), SWITCH), Plan(Lot(), [])
        self.assertEqual(list(plan + plan), SWITCH + SWITCH)
        self.assertEqual((list(nothing + plan), (nothing + plan).start), (SWITCH, Lot()))
        self.assertEqual((list(plan + nothing), (plan + nothing).start), (SWITCH, Lot([UP])))

    def test_only_a_plan_is_added_to_a_plan(self):
        for other in (Lot([UP]), list(SWITCH), 1, None):
            with self.assertRaises(TypeError):
                Plan(Lot(), SWITCH) + other

    def test_a_sum_is_played_as_one(self):
        yard = example_yard()
        self.unmet(("app", "up", "d1"), Plan(Lot(), SWITCH) + Plan(Lot(), [("move", "base", "new")]), yard)
        self.assertEqual(state(yard)[1], [UP])


class SameEndTest(Case):
    def same(self, expected, first, second, rows=(UP,)):
        """Check both orders of the plans, and that the yard does not change."""
        yard = example_yard(rows)
        first, second = Plan(Lot(), first), Plan(Lot([UP]), second)
        for one, other in [(first, second), (second, first)]:
            self.assertIs(same_end(one, other, yard), expected)
        self.assertEqual(state(yard), (("old", "on"), list(rows)))

    def test_the_same_end_on_different_ways(self):
        self.same(True, SWITCH, [("put", "app", 1), ("put", "app", 1), ("step", "app", "idle", "up", 1),
                                 ("leave", (("app", "up", 2), ("app", "idle", 1)))])
        self.same(True, [], [])
        self.same(True, [("put", "app", HUGE)], [("put", "app", HUGE - 1), ("put", "app", 1)])

    def test_the_order_of_the_copies_does_not_matter(self):
        self.same(True, [("put", "app", 1), ("put", "next", 1)], [("put", "next", 1), ("put", "app", 1)])

    def test_a_plan_ends_as_itself(self):
        plan, yard = Plan(Lot(), SWITCH), example_yard()
        self.assertIs(same_end(plan, plan, yard), True)

    def test_different_ends(self):
        self.same(False, SWITCH, [])
        self.same(False, [("put", "app", 2)], [("put", "app", 3)])
        self.same(False, [("put", "app", 2)], [("put", "next", 2)])
        self.same(False, [("put", "app", HUGE)], [("put", "app", HUGE + 1)])

    def test_ends_that_differ_in_the_places_only(self):
        site = Site(example_kinds()[:1])
        yard = Yard(site, ("old",), Lot())
        move = Plan(Lot(), [("move", "base", "new")])
        self.assertIs(same_end(move, Plan(Lot(), []), yard), False)
        self.assertIs(same_end(Plan(Lot(), []), move, yard), False)
        self.assertIs(same_end(move, move, yard), True)
        self.assertEqual(yard.placed(), ("old",))

    def test_a_deed_that_raises_an_error(self):
        for deed in [("step", "app", "up", "idle", 1), ("step", "app", "idle", "up", 2), ("put", "app", 0),
                     ("put", "none", 1), ("take", (("app", "up", 3),)), ("leave", (("app", "up", 0),)),
                     ("move", "base", "new"), ("move", "base", "mid"), ("jump",)]:
            self.same(False, [deed], [])
            self.same(False, [deed], [deed])
            # Without the last deed the ends would be the same.
            self.same(False, SWITCH + [deed], SWITCH)

    def test_an_error_of_the_yard_itself_shows_nothing_but_false(self):
        self.same(False, [("take", (UP,))], [("take", (UP,))])
        with self.assertRaises(Unmet):
            Plan(Lot(), [("take", (UP,))])(example_yard())

    def test_the_starts_of_the_plans_do_not_matter(self):
        yard = example_yard()
        first, second = Plan(Lot([("app", "up", 50)]), SWITCH), Plan(Lot([("next", "up", 1)]), SWITCH)
        self.assertIs(same_end(first, second, yard), True)


if __name__ == "__main__":
    unittest.main()
