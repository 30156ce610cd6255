"""Sites (points 2, 5 to 8 and 18 of the document, and soundyard/sites.py of its interface)."""

import unittest

from soundyard.errors import Repeated, Shut, Unknown
from soundyard.kinds import Many, Single
from soundyard.lots import Hold
from soundyard.sites import Site
from tests.helpers import Case, example_kinds, many, single

APP_UP, APP_IDLE = ("app", "up"), ("app", "idle")
NEXT_UP, NEXT_IDLE = ("next", "up"), ("next", "idle")


def mixed():
    """A site whose single and many kinds take turns and share the names of standings and doors."""
    return Site([
        many("app", ["idle", "up", "hot"], [], [("idle", ["b"], ["a"]), ("hot", [], ["c", "a"])]),
        single("base", ["idle", "up"], [], [("idle", [], ["b"]), ("up", ["c", "d"], ["d", "b"])]),
        many("next", ["up", "idle"], [], [("up", ["a", "e"], ["e"])]),
        single("user", ["on", "up"], [], [("up", [], ["c", "f"])]),
    ])


def asking(site, places, hold):
    """Return all actions of a site that take places and a hold."""
    return [
        lambda: site.present(places, hold), lambda: site.opened(places, hold), lambda: site.giver("a", places, hold),
        lambda: site.unmet(places, hold), lambda: site.check(places, hold),
    ]


class MakingTest(Case):
    def test_the_first_name_that_comes_again_is_told(self):
        kinds = [single("a", ["on"]), many("b", ["on"]), many("c", ["on"]), single("b", ["off"]), many("a", ["on"])]
        self.refused(Repeated("b"), Site, kinds)
        self.refused(Repeated("a"), Site, [kinds[0], kinds[0]])
        self.refused(Repeated("b"), Site, [kinds[1], kinds[3]])

    def test_a_name_of_a_kind_may_be_that_of_a_standing_or_a_door(self):
        site = Site([single("x", ["x"], [], [("x", ["x"], ["x"])]), many("y", ["x", "y"], [], [("x", ["y"], ["y"])])])
        self.assertEqual(site.present(("x",), Hold([("y", "x")])), (("x", "x"), ("y", "x")))
        self.assertEqual(site.opened(("x",), Hold([("y", "x")])), ("x", "y"))

    def test_the_list_and_the_kinds_are_copied_and_stay_as_they_were(self):
        kinds = example_kinds()
        site = Site(kinds)
        self.assertEqual([kind.name for kind in kinds], ["base", "app", "next", "user"])
        self.assertEqual([kind["up"] for kind in kinds[1:3]], [(("d1",), ("page",)), (("d2",), ("page",))])
        kinds[0]["old"] = (["never"], [])
        kinds[1]["up"] = ([], [])
        kinds[0].name = "other"
        kinds.pop()
        self.assertEqual(site.singles(), ("base", "user"))
        self.assertEqual(site.opened(("old", "on"), Hold([APP_UP])), ("d1", "page"))
        self.assertIsNone(site.unmet(("old", "on"), Hold([APP_UP])))

    def test_what_is_returned_is_apart_from_the_site(self):
        site = mixed()
        hold = site.spots()
        hold |= Hold([("x", "y")])
        self.assertEqual(len(site.spots()), 5)


class ListsTest(Case):
    def test_single_kinds_in_order(self):
        self.assertEqual(mixed().singles(), ("base", "user"))
        self.assertEqual(Site([single("b", ["on"]), single("a", ["on"])]).singles(), ("b", "a"))

    def test_all_spots_in_order(self):
        self.assertIsInstance(mixed().spots(), Hold)
        self.assertEqual(list(mixed().spots()), [APP_IDLE, APP_UP, ("app", "hot"), NEXT_UP, NEXT_IDLE])

    def test_first_places(self):
        self.assertEqual(mixed().first_places(), ("idle", "on"))
        self.assertIsInstance(mixed().first_places(), tuple)
        self.assertEqual(Site([single("b", ["new", "old"])]).first_places(), ("new",))

    def test_a_site_without_kinds(self):
        site = Site([])
        self.assertEqual((site.singles(), list(site.spots()), site.first_places()), ((), [], ()))
        self.assertEqual((site.present((), Hold()), site.opened((), Hold())), ((), ()))
        self.assertIsNone(site.unmet((), Hold()))
        self.assertIsNone(site.check((), Hold()))
        self.refused(Shut("a"), site.giver, "a", (), Hold())
        self.assertEqual(site.offered().singles(), ())
        self.refused(Unknown("app"), site.offered, ("app", "up", "a"))
        for action in asking(site, (), Hold([APP_UP])):
            self.refused(Unknown("app"), action)

    def test_a_site_without_single_kinds(self):
        site = Site([many("app", ["idle", "up"], [], [("up", ["a"], ["a"])]), many("next", ["up"], [], [])])
        self.assertEqual((site.singles(), site.first_places()), ((), ()))
        self.assertEqual(site.present((), Hold([NEXT_UP, APP_UP])), (APP_UP, NEXT_UP))
        self.assertEqual(site.opened((), Hold([APP_UP])), ("a",))

    def test_a_site_without_many_kinds(self):
        site = Site([single("base", ["old", "new"], [], [("new", ["a"], ["b"])])])
        self.assertEqual((site.singles(), list(site.spots()), site.first_places()), (("base",), [], ("old",)))
        self.assertEqual(site.present(("new",), Hold()), (("base", "new"),))
        self.assertEqual(site.unmet(("new",), Hold()), ("base", "new", "a"))

    def test_the_number_of_standings_and_kinds_may_be_greater(self):
        names = [f"a{number}" for number in range(12)]
        site = Site([many(name, names) for name in names] + [single("averylongnameindeed", names)])
        self.assertEqual(len(site.spots()), 144)
        self.assertEqual(len(site.present(("a3",), site.spots())), 145)


class PairTest(Case):
    def test_present_standings_are_in_the_order_of_the_site(self):
        site = mixed()
        hold = Hold([NEXT_IDLE, ("app", "hot"), NEXT_UP, APP_IDLE])
        expected = (APP_IDLE, ("app", "hot"), ("base", "up"), NEXT_UP, NEXT_IDLE, ("user", "on"))
        self.assertEqual(site.present(("up", "on"), hold), expected)
        self.assertEqual(site.present(("idle", "up"), Hold()), (("base", "idle"), ("user", "up")))
        self.assertEqual(list(hold), [NEXT_IDLE, ("app", "hot"), NEXT_UP, APP_IDLE])

    def test_a_standing_of_a_single_kind_does_not_stand_for_one_of_a_many_kind(self):
        self.assertEqual(mixed().present(("up", "up"), Hold([APP_UP])), (APP_UP, ("base", "up"), ("user", "up")))

    def test_open_doors_are_in_order_and_without_duplicates(self):
        site = mixed()
        hold = Hold([NEXT_UP, ("app", "hot"), APP_IDLE])
        self.assertEqual(site.opened(("up", "up"), hold), ("a", "c", "d", "b", "e", "f"))
        self.assertEqual(site.opened(("idle", "on"), Hold([("app", "hot")])), ("c", "a", "b"))
        self.assertEqual(site.opened(("idle", "on"), Hold([APP_UP])), ("b",))

    def test_the_first_standing_that_gives_a_door(self):
        site = mixed()
        hold = Hold([("app", "hot"), APP_IDLE])
        self.assertEqual(site.giver("a", ("up", "up"), hold), APP_IDLE)
        self.assertEqual(site.giver("c", ("up", "up"), hold), ("app", "hot"))
        self.assertEqual(site.giver("c", ("up", "up"), Hold()), ("user", "up"))
        self.assertEqual(site.giver("b", ("idle", "up"), hold), ("base", "idle"))
        self.refused(Shut("d"), site.giver, "d", ("idle", "up"), hold)
        self.refused(Shut("idle"), site.giver, "idle", ("idle", "up"), hold)

    def test_the_first_unmet_need_goes_by_present_standing_and_then_by_need(self):
        site = mixed()
        self.assertEqual(site.unmet(("up", "on"), Hold([NEXT_UP])), ("base", "up", "c"))
        self.assertEqual(site.unmet(("up", "up"), Hold([NEXT_UP])), ("next", "up", "a"))
        self.assertIsNone(site.unmet(("up", "up"), Hold([NEXT_UP, APP_IDLE])))
        alone = Site([many("app", ["up", "idle"], [], [("up", ["z", "a"], []), ("idle", ["b"], [])])])
        self.assertEqual(alone.unmet((), Hold([APP_IDLE, APP_UP])), ("app", "up", "z"))
        self.assertEqual(alone.unmet((), Hold([APP_IDLE])), ("app", "idle", "b"))

    def test_a_need_may_be_met_by_a_later_standing_and_by_the_standing_itself(self):
        site = Site([many("app", ["up", "idle"], [], [("up", ["a", "b"], ["b"]), ("idle", [], ["a"])])])
        self.assertEqual(site.unmet((), Hold([APP_UP])), ("app", "up", "a"))
        self.assertIsNone(site.unmet((), Hold([APP_UP, APP_IDLE])))

    def test_the_empty_hold_of_many_kinds_is_sound(self):
        self.assertIsNone(Site([many("app", ["up"], [], [("up", ["a"], [])])]).unmet((), Hold()))

    def test_a_check_raises_the_first_unmet_need_with_its_cause(self):
        site = mixed()
        self.assertIsNone(site.check(("idle", "on"), Hold([APP_IDLE])))
        self.unmet(("base", "up", "c"), site.check, ("up", "on"), Hold([NEXT_UP]))
        self.unmet(("next", "up", "a"), site.check, ("up", "up"), Hold([NEXT_UP]))

    def test_places_are_checked_first_and_from_left_to_right(self):
        hold = Hold([("none", "up"), ("app", "none")])
        for places, name in ((("old", "off"), "old"), (("hot", "on"), "hot"), (("idle", "idle"), "idle"),
                             (("up", "off"), "off"), (("on", "up"), "on")):
            for action in asking(mixed(), places, hold) + asking(mixed(), places, Hold()):
                self.refused(Unknown(name), action)

    def test_then_the_spots_in_the_order_of_the_hold(self):
        for spots, name in (([APP_UP, ("none", "up")], "none"), ([("app", "none"), ("base", "up")], "none"),
                            ([("base", "up"), ("app", "none")], "base"), ([("next", "hot"), ("other", "up")], "hot"),
                            ([("other", "up"), ("app", "none")], "other"), ([("user", "off")], "user"),
                            ([NEXT_UP, ("app", "on"), ("other", "up")], "on")):
            for action in asking(mixed(), ("up", "on"), Hold(spots)):
                self.refused(Unknown(name), action)

    def test_names_come_before_shut_doors_and_unmet_needs(self):
        site = mixed()
        self.refused(Unknown("x"), site.giver, "nodoor", ("idle", "on"), Hold([("app", "x")]))
        self.refused(Unknown("x"), site.check, ("up", "on"), Hold([NEXT_UP, ("app", "x")]))
        self.refused(Unknown("x"), site.giver, "b", ("idle", "on"), Hold([("app", "x")]))

    def test_asking_changes_nothing(self):
        site, hold, places = mixed(), Hold([NEXT_UP, APP_IDLE]), ("up", "up")
        before = site.present(places, hold), site.opened(places, hold), site.unmet(places, hold)
        for action in asking(site, places, hold) * 2:
            action()
        self.assertEqual((site.present(places, hold), site.opened(places, hold), site.unmet(places, hold)), before)
        self.assertEqual(list(hold), [NEXT_UP, APP_IDLE])


class OfferedTest(Case):
    def test_a_door_is_added_at_the_end(self):
        site = mixed()
        other = site.offered(("base", "up", "z"), ("base", "up", "a"))
        self.assertIsInstance(other, Site)
        self.assertEqual(other.opened(("up", "on"), Hold()), ("d", "b", "z", "a"))
        self.assertEqual(other.opened(("idle", "on"), Hold()), ("b",))

    def test_the_first_site_stays_as_it_was(self):
        site = mixed()
        other = site.offered(("base", "up", "c"), ("app", "up", "y"))
        self.assertEqual(site.opened(("up", "on"), Hold([APP_UP])), ("d", "b"))
        self.assertEqual(site.unmet(("up", "on"), Hold()), ("base", "up", "c"))
        self.assertEqual(other.opened(("up", "on"), Hold([APP_UP])), ("y", "d", "b", "c"))
        third = other.offered(("base", "up", "x"))
        self.assertEqual(other.opened(("up", "on"), Hold()), ("d", "b", "c"))
        self.assertEqual(third.opened(("up", "on"), Hold()), ("d", "b", "c", "x"))

    def test_needs_steps_names_and_order_are_kept(self):
        site = Site(example_kinds())
        other = site.offered(("base", "old", "d2"), ("app", "up", "more"))
        self.assertEqual((other.singles(), other.first_places()), (("base", "user"), ("old", "on")))
        self.assertEqual(list(other.spots()), list(site.spots()))
        self.assertEqual(other.unmet(("new", "on"), Hold([APP_UP])), ("app", "up", "d1"))
        self.assertEqual(other.opened(("old", "on"), Hold([APP_UP, NEXT_UP])), ("d1", "d2", "page", "more"))

    def test_a_door_that_is_given_already_is_not_added(self):
        site = mixed()
        other = site.offered(("base", "up", "d"), ("base", "idle", "z"), ("base", "idle", "z"), ("base", "idle", "b"))
        self.assertEqual(other.opened(("up", "on"), Hold()), ("d", "b"))
        self.assertEqual(other.opened(("idle", "on"), Hold()), ("b", "z"))

    def test_no_offers_give_a_site_of_the_same_kinds(self):
        site = mixed()
        other = site.offered()
        self.assertIsInstance(other, Site)
        self.assertEqual(other.opened(("up", "up"), site.spots()), site.opened(("up", "up"), site.spots()))

    def test_many_offers_beyond_the_limits(self):
        offers = [("base", "idle", f"door{number}") for number in range(80)]
        self.assertEqual(len(mixed().offered(*offers).opened(("idle", "on"), Hold())), 81)

    def test_the_first_strange_offer_is_told(self):
        site = mixed()
        good = ("base", "up", "z")
        self.refused(Unknown("none"), site.offered, good, ("none", "up", "z"), ("app", "old", "z"))
        self.refused(Unknown("old"), site.offered, good, ("app", "old", "z"), ("none", "up", "z"))
        self.refused(Unknown("on"), site.offered, ("base", "on", "z"))
        self.refused(Unknown("none"), site.offered, ("none", "on", "z"))
        self.refused(Unknown("hot"), site.offered, ("next", "hot", "z"), good)
        self.assertEqual(site.opened(("up", "on"), Hold()), ("d", "b"))

    def test_kinds_stay_single_and_many(self):
        other = mixed().offered(("app", "up", "z"), ("user", "on", "z"))
        self.assertEqual(other.singles(), ("base", "user"))
        self.refused(Unknown("user"), other.present, ("up", "on"), Hold([("user", "on")]))


class ShapesTest(Case):
    def test_a_site_takes_both_shapes_of_kinds(self):
        site = Site([Many("app", ["up"]), Single("base", ["on"])])
        self.assertEqual((site.singles(), list(site.spots())), (("base",), [APP_UP]))


if __name__ == "__main__":
    unittest.main()
