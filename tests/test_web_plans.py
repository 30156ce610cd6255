"""The plans that a web makes (points 8, 16, 17 and 19, and `plan` in soundyard/webs.py of the interface)."""

import unittest

from soundyard.errors import Never, Unknown
from soundyard.lots import Hold, Lot
from soundyard.plans import Plan
from soundyard.sites import Site
from soundyard.webs import Web
from soundyard.yards import Yard
from tests.helpers import HUGE, Case, example_kinds, many, rooms, single

APP_UP, APP_IDLE = ("app", "up"), ("app", "idle")
NEXT_UP, NEXT_IDLE = ("next", "up"), ("next", "idle")


class PlanCase(Case):
    def leads(self, site, places, spots, wish, rows, moves):
        """Check that the plan of a web leads from yards with the start's copies, and with more, to the wish."""
        web, lot = Web(site, places=places, hold=Hold(spots)), Lot(rows)
        plan = web.plan(wish, lot)
        self.assertIsInstance(plan, Plan)
        self.assertEqual(plan.start.spots(), Hold(spots))
        self.assertEqual(plan.moves, moves)
        self.assertEqual(len([deed for deed in plan if deed[0] == "move"]), moves)
        self.assertEqual(web.fewest(wish, lot.spots()), moves)
        some = Lot([(*spot, at + 1) for at, spot in enumerate(spots) if at % 2 == 0])
        every = Lot([(*spot, 10 ** 30) for spot in spots])
        for more in (Lot(), Lot([(*spot, 1) for spot in spots]), some, every):
            yard = Yard(site, places, plan.start + more)
            self.assertIsNone(plan(yard))
            self.assertEqual(yard.placed(), wish)
            self.assertEqual(yard.lot, lot)
        return plan

    def never(self, web, places, lot):
        with self.assertRaises(Never) as caught:
            web.plan(places, lot)
        self.assertIs(type(caught.exception), Never)
        closed = caught.exception.closed
        self.assertIsInstance(closed, list)
        shown = sorted([(where, list(hold)) for where, hold in web.pairs()])
        self.assertEqual(sorted([(where, list(hold)) for where, hold in closed]), shown)
        return closed


class ExampleTest(PlanCase):
    def site(self):
        return Site(example_kinds()).offered(("base", "old", "d2"))

    def test_three_copies_of_next_at_up(self):
        for count in (1, 3, HUGE, 10 ** 30):
            self.leads(self.site(), ("old", "on"), [APP_UP], ("new", "on"), [(*NEXT_UP, count)], 1)

    def test_the_plan_of_the_document_ends_there_too(self):
        plan = Plan(Lot([(*APP_UP, 1)]), [("put", "next", 3), ("step", "next", "idle", "up", 3),
                                          ("leave", ((*NEXT_UP, 3),)), ("move", "base", "new")])
        yard = Yard(self.site(), ("old", "on"), plan.start)
        self.assertEqual(plan.moves, 1)
        plan(yard)
        self.assertEqual((yard.placed(), list(yard)), (("new", "on"), [(*NEXT_UP, 3)]))

    def test_without_the_offer_it_cannot_be_brought_about(self):
        web = Web(Site(example_kinds()), places=("old", "on"), hold=Hold([APP_UP]))
        closed = self.never(web, ("new", "on"), Lot([(*NEXT_UP, 3)]))
        self.assertEqual([(where, list(hold)) for where, hold in closed],
                         [(("old", "on"), [APP_IDLE, APP_UP, NEXT_IDLE])])


class WishTest(PlanCase):
    def test_the_wish_is_the_start_itself(self):
        for rows in ([(*APP_UP, 1)], [(*APP_UP, HUGE)]):
            self.leads(Site(example_kinds()), ("old", "on"), [APP_UP], ("old", "on"), rows, 0)

    def test_an_empty_lot_and_an_empty_start(self):
        site = Site([single("base", ["a", "b", "c"], [("a", "b"), ("b", "c")]), many("app", ["idle"])])
        plan = self.leads(site, ("a",), [], ("c",), [], 2)
        self.assertEqual(plan.start, Lot())
        self.leads(site, ("a",), [APP_IDLE], ("c",), [], 2)
        self.leads(site, ("a",), [], ("a",), [], 0)
        self.leads(site, ("a",), [], ("b",), [(*APP_IDLE, 10 ** 30)], 1)

    def test_without_kinds_single_kinds_or_many_kinds(self):
        self.leads(Site([]), (), [], (), [], 0)
        site = Site([many("app", ["idle", "up"], [("idle", "up")])])
        self.leads(site, (), [], (), [(*APP_UP, 5)], 0)
        self.leads(site, (), [APP_UP], (), [(*APP_IDLE, 2), (*APP_UP, 1)], 0)
        self.leads(Site([single("base", ["a", "b"], [("a", "b")])]), ("a",), [], ("b",), [], 1)

    def test_copies_that_no_deed_brings_in_come_from_the_start(self):
        site = Site([many("app", ["a", "b", "c", "d"], [("b", "c"), ("c", "d")], [("a", ["x"], [])])])
        for rows in ([("app", "b", 5)], [("app", "c", 5)], [("app", "d", 7), ("app", "b", 10 ** 30)],
                     [("app", "d", 1), ("app", "c", 2), ("app", "b", 3)], []):
            plan = self.leads(site, (), [("app", "b")], (), rows, 0)
            self.assertGreaterEqual(plan.start["app", "b"], max(1, sum(count for _, _, count in rows)))
        self.leads(site, (), [("app", "b"), ("app", "d")], (), [("app", "d", 7)], 0)

    def test_two_kinds_of_copies_from_one_standing(self):
        steps = [("a", "b"), ("a", "c"), ("b", "d")]
        site = Site([many("app", ["z", "a", "b", "c", "d"], steps, [("z", ["x"], [])])])
        rows = [("app", "d", 4), ("app", "c", 3), ("app", "b", 2), ("app", "a", 1)]
        self.leads(site, (), [("app", "a")], (), rows, 0)
        self.leads(site, (), [("app", "a"), ("app", "c")], (), rows[:2], 0)

    def test_all_spots_of_a_cycle(self):
        site = Site([many("app", ["a", "b", "c"], [("a", "b"), ("b", "c"), ("c", "a")])])
        for spots in ([], [("app", "b")], [("app", "c"), ("app", "b")]):
            self.leads(site, (), spots, (), [("app", "c", 2), ("app", "a", 1), ("app", "b", HUGE)], 0)

    def test_copies_are_taken_away_that_a_wish_does_not_name(self):
        self.leads(Site(example_kinds()), ("old", "on"), [APP_IDLE, APP_UP, NEXT_IDLE], ("old", "on"),
                   [(*APP_UP, 1)], 0)


class WayTest(PlanCase):
    def test_ways_through_rooms(self):
        for wish, rows, moves in [
            ("left", [("one", "on", 3), ("one", "in", 2)], 1), ("right", [("two", "on", 10 ** 30)], 1),
            ("hall", [("one", "on", HUGE)], 2), ("hall", [("two", "on", 1)], 2), ("hall", [], 0), ("left", [], 1),
        ]:
            self.leads(rooms(), ("hall",), [], (wish,), rows, moves)

    def test_copies_of_the_start_that_stay(self):
        for rows, moves in [([("one", "on", 8)], 0), ([("one", "on", 8), ("two", "on", 9)], 0), ([], 0)]:
            self.leads(rooms(), ("hall",), [("two", "on"), ("one", "on")], ("hall",), rows, moves)
        self.leads(rooms(), ("left",), [("one", "on")], ("right",), [("two", "in", 2)], 2)

    def test_copies_that_come_in_on_the_way(self):
        # At b copies come in that open the door which the single part needs at c.
        site = Site([
            single("base", ["a", "b", "c", "d"], [("a", "b"), ("b", "c"), ("c", "d"), ("d", "a")],
                   [("b", [], ["x"]), ("c", ["page"], []), ("d", [], ["y"])]),
            many("app", ["in", "on", "off"], [("in", "on"), ("on", "off")],
                 [("in", ["x"], []), ("on", [], ["page"]), ("off", ["y"], [])]),
        ])
        self.leads(site, ("a",), [], ("c",), [("app", "on", 1)], 2)
        self.leads(site, ("a",), [], ("d",), [("app", "off", 10 ** 30), ("app", "on", 2)], 3)
        self.leads(site, ("a",), [], ("d",), [], 3)
        self.leads(site, ("a",), [], ("a",), [("app", "on", 6)], 4)
        self.leads(site, ("a",), [("app", "on")], ("a",), [("app", "on", 6)], 0)

    def test_several_single_parts_move(self):
        kinds = [single(name, ["off", "on"], [("off", "on"), ("on", "off")]) for name in ("x", "y", "z")]
        self.leads(Site(kinds), ("off", "on", "off"), [], ("on", "off", "off"), [], 2)
        self.leads(Site(kinds), ("off", "off", "off"), [], ("on", "on", "on"), [], 3)


class WrongTest(PlanCase):
    def web(self):
        return Web(Site(example_kinds()), places=("old", "on"), hold=Hold([APP_UP]))

    def test_a_wish_that_is_not_sound(self):
        web = self.web()
        self.unmet(("user", "on", "page"), web.plan, ("old", "on"), Lot())
        self.unmet(("app", "up", "d1"), web.plan, ("new", "on"), Lot([(*NEXT_UP, 1), (*APP_UP, 1)]))
        self.unmet(("next", "up", "d2"), web.plan, ("old", "on"), Lot([(*NEXT_UP, HUGE), (*APP_UP, 1)]))

    def test_names_are_checked_first(self):
        web = self.web()
        for places, spots, name in [
            (("mid", "off"), [("none", "up")], "mid"), (("old", "off"), [("none", "up")], "off"),
            (("new", "on"), [NEXT_IDLE, ("none", "up"), ("app", "mid")], "none"),
            (("new", "on"), [NEXT_IDLE, ("app", "mid"), ("none", "up")], "mid"),
            (("new", "on"), [("base", "old")], "base"),
        ]:
            self.refused(Unknown(name), web.plan, places, Lot([(*spot, 1) for spot in spots]))

    def test_a_wish_that_cannot_be_brought_about(self):
        web = Web(rooms())
        both = Lot([("one", "on", 1), ("two", "on", 10 ** 30)])
        closed = self.never(web, ("hall",), both)
        closed.clear()
        self.assertEqual(len(web.pairs()), 4)
        self.assertEqual(len(self.never(web, ("hall",), both)), 4)
        web = Web(Site([single("base", ["a", "b"])]))
        self.assertEqual(self.never(web, ("b",), Lot()), [(("a",), Hold())])

    def test_nothing_is_kept_of_what_is_passed_or_returned(self):
        web, lot = Web(rooms()), Lot([("one", "on", 3)])
        plan = web.plan(("hall",), lot)
        self.assertEqual(list(lot), [("one", "on", 3)])
        deeds = list(plan)
        lot += Lot([("two", "on", 1)])
        self.assertEqual(list(plan), deeds)
        plan.start.__iadd__(lot)
        self.assertEqual(plan.start, Lot())
        self.assertEqual(web.plan(("hall",), Lot([("one", "on", 3)])).moves, 2)


if __name__ == "__main__":
    unittest.main()
