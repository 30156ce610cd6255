"""Webs (points 7, 8, 14 to 16 and 19, and soundyard/webs.py of the interface but `plan`)."""

import inspect
import unittest

from soundyard.errors import BadCount, Unknown
from soundyard.lots import Hold
from soundyard.sites import Site
from soundyard.webs import Web
from tests.helpers import HUGE, Case, example_kinds, many, rooms, single

APP_UP, APP_IDLE = ("app", "up"), ("app", "idle")
NEXT_UP, NEXT_IDLE = ("next", "up"), ("next", "idle")
LEFT, RIGHT = [("one", "in"), ("one", "on")], [("two", "in"), ("two", "on")]
# The walk through `rooms()`, with the pairs of one count in the order of their places and holds.
ROOMS = [
    (0, ("hall",), []), (1, ("left",), LEFT), (1, ("right",), RIGHT),
    (2, ("hall",), [("one", "on")]), (2, ("hall",), [("two", "on")]),
]


def ladder(*steps):
    return Site([single("base", ["a", "b", "c", "d"], steps)])


class WebCase(Case):
    def pairs(self, expected, found):
        """Check a list of pairs, which may be in any order."""
        self.assertIsInstance(found, list)
        for pair in found:
            self.assertIsInstance(pair, tuple)
            self.assertIsInstance(pair[0], tuple)
            self.assertIsInstance(pair[1], Hold)
        self.assertEqual(sorted([(places, list(hold)) for places, hold in found]), sorted(expected))

    def walked(self, expected, web):
        found = [(count, places, list(hold)) for count, places, hold in web.walk()]
        self.assertEqual(sorted(found), expected)
        self.assertEqual([row[0] for row in found], [row[0] for row in expected])


class ExampleTest(WebCase):
    def web(self, *offers):
        return Web(Site(example_kinds()).offered(*offers), places=("old", "on"), hold=Hold([APP_UP]))

    def test_the_example_has_one_pair(self):
        web = self.web()
        self.pairs([(("old", "on"), [APP_IDLE, APP_UP, NEXT_IDLE])], web.pairs())
        self.assertEqual(web.depth, 0)
        self.walked([(0, ("old", "on"), [APP_IDLE, APP_UP, NEXT_IDLE])], web)
        self.assertEqual(web.never(), [("base", "new"), NEXT_UP])
        self.assertIs(web.reaches(("new", "on"), Hold([NEXT_UP])), False)
        self.assertIsNone(web.fewest(("new", "on"), Hold([NEXT_UP])))

    def test_with_the_first_offer_it_still_has_not_what_is_wished(self):
        web = self.web(("base", "new", "page"))
        self.assertIs(web.reaches(("new", "on"), Hold([NEXT_UP])), False)

    def test_with_the_second_offer_it_has(self):
        web = self.web(("base", "old", "d2"))
        self.pairs([(("old", "on"), [APP_IDLE, APP_UP, NEXT_IDLE, NEXT_UP]),
                    (("new", "on"), [APP_IDLE, NEXT_IDLE, NEXT_UP])], web.pairs())
        self.assertEqual((web.depth, web.never()), (1, []))
        self.assertIs(web.reaches(("new", "on"), Hold([NEXT_UP])), True)
        self.assertEqual(web.fewest(("new", "on"), Hold([NEXT_UP])), 1)
        self.assertEqual(web.fewest(("old", "on"), Hold([NEXT_UP])), 0)


class RoomsTest(WebCase):
    """A site in which copies that came in at one of the places stay at another one."""

    def test_the_pairs_within_each_number_of_moves(self):
        web = Web(rooms())
        self.pairs([ROOMS[0][1:]], web.within(0))
        self.pairs([row[1:] for row in ROOMS[:3]], web.within(1))
        for count in (2, 3, 40, HUGE):
            self.pairs([row[1:] for row in ROOMS[1:]], web.within(count))
        self.pairs([row[1:] for row in ROOMS[1:]], web.pairs())
        self.assertEqual(web.depth, 2)

    def test_the_walk_tells_where_each_pair_comes_in(self):
        self.walked(ROOMS, Web(rooms()))

    def test_the_moves_of_pairs(self):
        web = Web(rooms())
        for places, spots, expected in [
            ("hall", [], 0), ("left", [], 1), ("left", LEFT, 1), ("left", LEFT[::-1], 1), ("right", RIGHT[1:], 1),
            ("hall", LEFT[1:], 2), ("hall", RIGHT[1:], 2), ("hall", [LEFT[1], RIGHT[1]], None), ("hall", LEFT, None),
            ("left", RIGHT[1:], None), ("left", LEFT + RIGHT, None),
        ]:
            self.assertEqual(web.fewest((places,), Hold(spots)), expected)
            self.assertIs(web.reaches((places,), Hold(spots)), expected is not None)

    def test_both_copies_stay_if_the_start_has_them(self):
        web = Web(rooms(), hold=Hold([RIGHT[1], LEFT[1]]))
        self.assertEqual(web.fewest(("hall",), Hold([RIGHT[1], LEFT[1]])), 0)
        self.walked([(0, ("hall",), [LEFT[1], RIGHT[1]]), (1, ("left",), LEFT), (1, ("right",), RIGHT)], web)
        self.pairs([(("hall",), [LEFT[1], RIGHT[1]]), (("left",), LEFT), (("right",), RIGHT)], web.pairs())


class StartTest(WebCase):
    def test_without_places_and_hold(self):
        site = Site([single("base", ["old", "new"]), many("app", ["idle", "up"]), single("user", ["off", "on"])])
        self.pairs([(("old", "off"), [APP_IDLE])], Web(site).pairs())
        self.pairs([(("old", "off"), [APP_IDLE])], Web(site, places=None, hold=None).pairs())
        self.pairs([(("old", "off"), [APP_IDLE, APP_UP])], Web(site, hold=Hold([APP_UP])).pairs())
        self.pairs([(("new", "on"), [APP_IDLE])], Web(site, places=("new", "on")).pairs())
        self.pairs([(("new", "on"), [APP_IDLE, APP_UP])], Web(site, hold=Hold([APP_UP]), places=("new", "on")).pairs())

    def test_places_and_hold_are_passed_by_name(self):
        with self.assertRaises(TypeError):
            Web(Site([]), (), Hold())
        given = inspect.signature(Web).parameters
        self.assertEqual(list(given), ["site", "places", "hold"])
        self.assertEqual([given[name].kind for name in ("places", "hold")], [inspect.Parameter.KEYWORD_ONLY] * 2)

    def test_a_start_that_is_not_sound(self):
        site = Site(example_kinds())
        self.unmet(("user", "on", "page"), lambda: Web(site))
        self.unmet(("app", "up", "d1"), lambda: Web(site, places=("new", "on"), hold=Hold([APP_UP])))
        self.unmet(("next", "up", "d2"), lambda: Web(site, hold=Hold([NEXT_UP, APP_UP])))

    def test_names_are_checked_first(self):
        site = Site(example_kinds())
        for places, spots, name in [
            (("mid", "off"), [("none", "up")], "mid"), (("old", "off"), [("none", "up")], "off"),
            (("old", "on"), [NEXT_UP, ("none", "up"), ("app", "mid")], "none"),
            (("old", "on"), [NEXT_UP, ("app", "mid"), ("none", "up")], "mid"),
            (("new", "on"), [("base", "old")], "base"), (("idle", "on"), [], "idle"),
        ]:
            self.refused(Unknown(name), lambda: Web(site, places=places, hold=Hold(spots)))
        self.refused(Unknown("none"), lambda: Web(site, hold=Hold([("none", "up")])))
        self.refused(Unknown("mid"), lambda: Web(site, places=("mid", "on")))

    def test_without_kinds_single_kinds_or_many_kinds(self):
        web = Web(Site([]))
        self.pairs([((), [])], web.pairs())
        self.walked([(0, (), [])], web)
        self.assertEqual((web.depth, web.never(), web.fewest((), Hold())), (0, [], 0))
        web = Web(Site([many("app", ["idle", "up", "end"], [("idle", "up")])]), places=())
        self.pairs([((), [APP_IDLE, APP_UP])], web.pairs())
        self.assertEqual((web.depth, web.never()), (0, [("app", "end")]))
        self.assertEqual([web.reaches((), Hold([("app", name)])) for name in ("up", "end")], [True, False])
        web = Web(Site([single("base", ["a", "b"], [("a", "b")]), single("user", ["on"])]))
        self.pairs([(("a", "on"), []), (("b", "on"), [])], web.pairs())
        self.assertEqual((web.depth, web.never()), (1, []))

    def test_what_is_passed_stays_as_it_was(self):
        site, hold = rooms(), Hold([RIGHT[1], LEFT[1]])
        web = Web(site, hold=hold)
        web.fewest(("hall",), hold)
        self.assertEqual(list(hold), [RIGHT[1], LEFT[1]])
        self.assertEqual(site.first_places(), ("hall",))
        self.pairs([(("hall",), [])], Web(site).within(0))


class StepsTest(WebCase):
    def test_steps_lead_one_way(self):
        web = Web(ladder(("a", "b"), ("b", "c"), ("d", "a")))
        self.walked([(0, ("a",), []), (1, ("b",), []), (2, ("c",), [])], web)
        self.assertEqual(web.never(), [("base", "d")])
        self.assertEqual([web.fewest((name,), Hold()) for name in "abcd"], [0, 1, 2, None])
        self.assertEqual(Web(ladder(("a", "b"), ("b", "c")), places=("c",)).never(), [("base", "a"), ("base", "b"),
                                                                                      ("base", "d")])

    def test_the_shortest_way_counts(self):
        web = Web(ladder(("a", "b"), ("b", "c"), ("c", "d"), ("a", "c"), ("d", "a")))
        self.assertEqual([web.fewest((name,), Hold()) for name in "abcd"], [0, 1, 1, 2])
        self.assertEqual(web.depth, 2)

    def test_one_single_part_moves_at_a_time(self):
        # Either part needs the door of the other one's first standing, so neither of them can leave first.
        kinds = [single("one", ["a", "b"], [("a", "b")], [("a", ["x"], ["y"])]),
                 single("two", ["a", "b"], [("a", "b")], [("a", ["y"], ["x"])])]
        self.assertEqual(Web(Site(kinds)).never(), [("one", "b"), ("two", "b")])
        kinds[1]["a"] = ([], ["x"])
        web = Web(Site(kinds))
        self.walked([(0, ("a", "a"), []), (1, ("b", "a"), []), (2, ("b", "b"), [])], web)

    def test_a_need_is_met_on_both_sides_of_a_crossing(self):
        kind = single("base", ["a", "b"], [("a", "b")], [("a", ["x"], ["x"]), ("b", ["x"], ["x"])])
        self.assertEqual(Web(Site([kind])).depth, 1)
        app = many("app", ["up"], [], [("up", ["x"], ["page"])])
        user = single("user", ["on"], [], [("on", ["page"], [])])
        self.assertIs(Web(Site([kind, app, user]), hold=Hold([("app", "up")])).reaches(("b", "on"), Hold()), False)
        self.assertEqual(Web(Site([kind, app, user]), hold=Hold([("app", "up")])).depth, 1)


class SoonAndLateTest(WebCase):
    def test_a_pair_that_is_covered_from_the_start_adds_no_depth(self):
        # The way to b and back loses the copies, and a pair with fewer moves covers what is left.
        site = Site([single("base", ["a", "b"], [("a", "b"), ("b", "a")], [("a", [], ["x"])]),
                     many("app", ["idle", "up"], [], [("idle", ["z"], []), ("up", ["x"], [])])])
        web = Web(site, hold=Hold([APP_UP]))
        self.walked([(0, ("a",), [APP_UP]), (1, ("b",), [])], web)
        self.assertEqual(web.depth, 1)
        self.assertEqual(web.fewest(("a",), Hold()), 0)
        self.pairs([(("a",), [APP_UP]), (("b",), [])], web.within(2))

    def test_a_greater_pair_comes_late(self):
        site = Site([single("base", ["a", "b", "c"], [("a", "b"), ("b", "c"), ("c", "a")], [("c", [], ["x"])]),
                     many("app", ["idle", "up"], [("idle", "up")], [("idle", ["x"], [])])])
        web = Web(site)
        rows = [(0, ("a",), []), (1, ("b",), []), (2, ("c",), [APP_IDLE, APP_UP]), (3, ("a",), [APP_UP]),
                (4, ("b",), [APP_UP])]
        self.walked(rows, web)
        self.assertEqual(web.depth, 4)
        self.pairs([row[1:] for row in rows[:3]], web.within(2))
        self.pairs([row[1:] for row in rows[1:4]], web.within(3))
        self.pairs([row[1:] for row in rows[2:]], web.pairs())
        self.assertEqual([web.fewest((name,), Hold()) for name in "abc"], [0, 1, 2])
        self.assertEqual([web.fewest((name,), Hold([APP_UP])) for name in "abc"], [3, 4, 2])


class AnswersTest(WebCase):
    def test_a_wish_that_is_not_sound_cannot_be_brought_about(self):
        site = Site([single("base", ["on"], [], [("on", [], ["x"])]),
                     many("app", ["idle", "up"], [("idle", "up")], [("up", ["y"], [])]),
                     many("next", ["idle"], [], [("idle", ["x"], ["y"])])])
        web = Web(site)
        self.pairs([(("on",), [APP_IDLE, APP_UP, NEXT_IDLE])], web.pairs())
        self.assertIs(web.reaches(("on",), Hold([APP_UP])), False)
        self.assertIsNone(web.fewest(("on",), Hold([APP_UP])))
        self.assertIs(web.reaches(("on",), Hold([APP_UP, NEXT_IDLE])), True)
        self.assertEqual(web.fewest(("on",), Hold([APP_UP, NEXT_IDLE])), 0)

    def test_counts_below_0(self):
        web = Web(rooms())
        for count in (-1, -2, -HUGE):
            self.refused(BadCount(count), web.within, count)

    def test_wrong_names(self):
        web = Web(Site(example_kinds()), places=("old", "on"), hold=Hold([APP_UP]))
        for action in (web.reaches, web.fewest):
            self.refused(Unknown("mid"), action, ("mid", "off"), Hold([("none", "up")]))
            self.refused(Unknown("off"), action, ("new", "off"), Hold([("none", "up")]))
            self.refused(Unknown("none"), action, ("new", "on"), Hold([NEXT_UP, ("none", "up"), ("app", "off")]))
            self.refused(Unknown("off"), action, ("new", "on"), Hold([NEXT_UP, ("app", "off"), ("none", "up")]))
            self.refused(Unknown("user"), action, ("old", "on"), Hold([("user", "on")]))

    def test_what_is_never_present_in_the_order_of_the_site(self):
        site = Site([many("app", ["idle", "up", "end"], [("up", "end"), ("up", "idle")], [("idle", ["x"], [])]),
                     single("base", ["a", "b", "c"], [("b", "a"), ("a", "c")]),
                     many("next", ["idle", "up"], [("up", "idle")])])
        self.assertEqual(Web(site).never(), [("app", "idle"), ("app", "up"), ("app", "end"), ("base", "b"), NEXT_UP])
        self.assertEqual(Web(site, hold=Hold([APP_UP])).never(), [("app", "idle"), ("base", "b"), NEXT_UP])
        self.assertEqual(Web(site, places=("b",), hold=Hold([NEXT_UP])).never(), [("app", name)
                                                                                  for name in ("idle", "up", "end")])

    def test_what_a_covered_pair_has_is_not_missing(self):
        # The first pair of all stands at hall without copies; greater pairs cover it later.
        self.assertEqual(Web(rooms()).never(), [])

    def test_returned_lists_can_be_changed(self):
        web = Web(rooms())
        for action in (web.pairs, lambda: web.within(1), lambda: web.within(2), web.never, lambda: list(web.walk())):
            before = [row for row in action()]
            action().clear()
            action().append("x")
            self.assertEqual(action(), before)
        self.walked(ROOMS, web)
        self.assertEqual(web.fewest(("hall",), Hold(LEFT[1:])), 2)

    def test_the_walk_yields_one_row_after_the_other(self):
        web = Web(rooms())
        walk = web.walk()
        self.assertTrue(inspect.isgenerator(walk))
        self.assertEqual(next(walk), (0, ("hall",), Hold()))
        self.assertEqual(len(list(walk)), 4)
        self.walked(ROOMS, web)
        for row in web.walk():
            self.assertIsInstance(row, tuple)
            self.assertIsInstance(row[2], Hold)


if __name__ == "__main__":
    unittest.main()
