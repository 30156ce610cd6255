"""Grown and kept holds and crossings (points 7, 8, 11 to 13 and 19, and soundyard/greatest.py of the interface)."""

import unittest

from soundyard.errors import Unknown
from soundyard.greatest import crossed, grown, kept
from soundyard.lots import Hold
from soundyard.sites import Site
from tests.helpers import Case, example_kinds, many, single

APP_UP, APP_IDLE = ("app", "up"), ("app", "idle")
NEXT_UP, NEXT_IDLE = ("next", "up"), ("next", "idle")


def chain():
    """A site whose holds grow only step after step, and against the order of the site."""
    return Site([
        many("last", ["off", "on"], [("off", "on")], [("off", ["c"], []), ("on", ["d"], [])]),
        many("app", ["a", "b", "c", "d"], [("a", "c"), ("c", "b"), ("b", "d")],
             [("a", [], ["a"]), ("b", ["c"], ["b"]), ("c", ["a"], ["c"]), ("d", ["b", "x"], ["d"])]),
        single("base", ["old", "new"], [], [("new", [], ["x"])]),
    ])


def three_singles():
    """A site of which the spots need doors that different single kinds give."""
    kinds = [single(name, ["off", "on", "up"], [], [("on", [], [name]), ("up", [], [name, "high"])])
             for name in ("a", "b", "c")]
    return Site(kinds + [
        many("one", ["s", "t", "u"], [], [("s", ["a"], ["s"]), ("t", ["b", "c"], ["t"]), ("u", ["s", "t"], [])]),
        many("two", ["s", "t"], [], [("s", ["high"], []), ("t", ["t"], ["t"])]),
    ])


class GrownTest(Case):
    def holds(self, expected, found):
        self.assertIsInstance(found, Hold)
        self.assertEqual(list(found), expected)

    def test_the_grown_hold_of_the_example(self):
        site = Site(example_kinds())
        self.holds([APP_IDLE, APP_UP, NEXT_IDLE], grown(site, ("old", "on"), Hold([APP_UP])))

    def test_it_grows_step_after_step(self):
        app = [("app", name) for name in "abc"]
        self.holds([("last", "off")] + app, grown(chain(), ("old",), Hold()))
        everything = [("last", "off"), ("last", "on")] + app + [("app", "d")]
        self.holds(everything, grown(chain(), ("new",), Hold()))

    def test_a_grown_hold_grows_no_more(self):
        site = chain()
        for places in (("old",), ("new",)):
            hold = grown(site, places, Hold())
            self.holds(list(hold), grown(site, places, hold))

    def test_the_hold_itself_stays_in_it_and_is_a_source_of_steps(self):
        site = Site([many("app", ["a", "b", "c", "d"], [("c", "b"), ("d", "a")], [("a", ["x"], [])])])
        self.holds([], grown(site, (), Hold()))
        self.holds([("app", "b"), ("app", "c")], grown(site, (), Hold([("app", "c")])))
        self.holds([("app", "b")], grown(site, (), Hold([("app", "b")])))
        self.holds([("app", "b"), ("app", "c"), ("app", "d")], grown(site, (), Hold([("app", "d"), ("app", "c")])))

    def test_a_step_of_the_same_kind_is_asked_for(self):
        site = Site([many("app", ["a", "b"], []), many("next", ["a", "b"], [("a", "b")])])
        self.holds([("app", "a"), ("next", "a"), ("next", "b")], grown(site, (), Hold()))

    def test_a_spot_may_meet_its_own_need(self):
        site = Site([many("app", ["a", "b"], [("a", "b")], [("a", ["x"], ["x"]), ("b", ["y", "x"], ["y"])])])
        self.holds([("app", "a"), ("app", "b")], grown(site, (), Hold()))

    def test_two_spots_that_need_each_other_are_not_added(self):
        site = Site([many("app", ["a"], [], [("a", ["y"], ["x"])]), many("next", ["a"], [], [("a", ["x"], ["y"])])])
        self.holds([], grown(site, (), Hold()))
        both = [("app", "a"), ("next", "a")]
        self.holds(both, grown(site, (), Hold(both[::-1])))

    def test_all_needs_must_be_met(self):
        site = Site([single("base", ["on"], [], [("on", [], ["x"])]), many("app", ["a"], [], [("a", ["x", "y"], [])])])
        self.holds([], grown(site, ("on",), Hold()))

    def test_the_order_is_that_of_the_site(self):
        site = Site(example_kinds())
        self.holds([APP_IDLE, APP_UP, NEXT_IDLE], grown(site, ("old", "on"), Hold([NEXT_IDLE, APP_UP])))

    def test_without_kinds_single_kinds_or_many_kinds(self):
        self.holds([], grown(Site([]), (), Hold()))
        self.holds([], grown(Site([single("base", ["old"])]), ("old",), Hold()))
        self.holds([APP_UP], grown(Site([many("app", ["up", "idle"])]), (), Hold()))

    def test_a_pair_that_is_not_sound_is_refused(self):
        site = Site(example_kinds())
        self.unmet(("user", "on", "page"), grown, site, ("old", "on"), Hold())
        self.unmet(("app", "up", "d1"), grown, site, ("new", "on"), Hold([NEXT_UP, APP_UP]))
        self.unmet(("next", "up", "d2"), grown, site, ("old", "on"), Hold([NEXT_UP, APP_UP]))

    def test_names_are_checked_first(self):
        site = Site(example_kinds())
        self.refused(Unknown("mid"), grown, site, ("mid", "off"), Hold([("none", "up")]))
        self.refused(Unknown("off"), grown, site, ("old", "off"), Hold([("none", "up")]))
        self.refused(Unknown("none"), grown, site, ("old", "on"), Hold([APP_UP, ("none", "up"), ("app", "off")]))
        self.refused(Unknown("off"), grown, site, ("old", "on"), Hold([NEXT_UP, ("app", "off"), ("none", "up")]))
        self.refused(Unknown("base"), grown, site, ("old", "on"), Hold([("base", "old")]))

    def test_the_passed_objects_stay_as_they_were(self):
        site, hold = Site(example_kinds()), Hold([NEXT_IDLE, APP_UP])
        grown(site, ("old", "on"), hold)
        kept(site, ("old", "on"), ("new", "on"), hold)
        crossed(site, ("old", "on"), ("new", "on"), hold)
        self.holds([NEXT_IDLE, APP_UP], hold)
        self.assertEqual(site.opened(("old", "on"), hold), ("d1", "page"))


class KeptTest(Case):
    def holds(self, expected, found):
        self.assertIsInstance(found, Hold)
        self.assertEqual(list(found), expected)

    def test_the_kept_hold_of_the_example(self):
        site = Site(example_kinds())
        hold = grown(site, ("old", "on"), Hold([APP_UP]))
        self.holds([APP_IDLE, NEXT_IDLE], kept(site, ("old", "on"), ("new", "on"), hold))

    def test_the_same_places_twice(self):
        site = Site(example_kinds())
        everything = Hold([NEXT_UP, NEXT_IDLE, APP_UP, APP_IDLE])
        self.holds([APP_IDLE, APP_UP, NEXT_IDLE], kept(site, ("old", "on"), ("old", "on"), everything))
        self.holds([APP_IDLE, NEXT_IDLE, NEXT_UP], kept(site, ("new", "on"), ("new", "on"), everything))

    def test_each_need_is_met_with_both_places(self):
        site = Site(example_kinds()).offered(("base", "old", "d2"))
        for one, other in ((("old", "on"), ("new", "on")), (("new", "on"), ("old", "on"))):
            self.holds([NEXT_UP], kept(site, one, other, Hold([APP_UP, NEXT_UP])))

    def test_places_that_differ_in_several_standings(self):
        site, everything = three_singles(), three_singles().spots()
        rows = {name: ("one", name) for name in "stu"}
        self.holds([rows["s"], rows["t"], rows["u"], ("two", "t")],
                   kept(site, ("on", "on", "on"), ("on", "on", "on"), everything))
        self.holds([rows["t"], ("two", "s"), ("two", "t")],
                   kept(site, ("on", "up", "on"), ("off", "on", "up"), everything))
        # The spot "u" of the kind "one" stays: the kind "two" at "t" gives the door "t", also to itself.
        self.holds([rows["s"], rows["u"], ("two", "s"), ("two", "t")],
                   kept(site, ("on", "up", "off"), ("up", "off", "on"), everything))
        self.holds([rows["s"], ("two", "s")],
                   kept(site, ("on", "up", "off"), ("up", "off", "on"), everything - Hold([("two", "t")])))
        self.holds([("two", "t")], kept(site, ("on", "on", "off"), ("off", "off", "on"), everything))
        self.holds([], kept(site, ("on", "on", "off"), ("off", "off", "on"), Hold([rows["s"], rows["u"], rows["t"]])))

    def test_a_need_may_be_met_by_different_givers(self):
        site = Site([single("base", ["old", "new"], [], [("old", [], ["x"])]),
                     single("more", ["old", "new"], [], [("new", [], ["x"])]), many("app", ["up"], [], [("up", ["x"], [])])])
        self.holds([APP_UP], kept(site, ("old", "old"), ("new", "new"), Hold([APP_UP])))
        self.holds([], kept(site, ("old", "old"), ("new", "old"), Hold([APP_UP])))

    def test_what_leaves_takes_others_with_it(self):
        site = Site([single("base", ["old", "new"], [], [("old", [], ["z"])]),
                     many("app", ["a", "b", "c", "d"], [],
                          [("a", ["b"], []), ("b", ["c"], ["b"]), ("c", ["z"], ["c"]), ("d", ["d"], ["d"])])])
        self.holds([("app", "d")], kept(site, ("old",), ("new",), site.spots()))
        self.holds([("app", "d")], kept(site, ("new",), ("old",), site.spots()))
        self.holds(list(site.spots()), kept(site, ("old",), ("old",), site.spots()))

    def test_spots_that_need_each_other_stay(self):
        site = Site([many("app", ["a"], [], [("a", ["y"], ["x"])]), many("next", ["a"], [], [("a", ["x"], ["y"])])])
        both = [("app", "a"), ("next", "a")]
        self.holds(both, kept(site, (), (), Hold(both[::-1])))
        self.holds([], kept(site, (), (), Hold(both[:1])))

    def test_needs_of_single_parts_do_not_matter(self):
        site = Site([single("base", ["old", "new"], [], [("old", ["x"], []), ("new", ["y"], ["z"])]),
                     many("app", ["up"], [], [])])
        self.holds([APP_UP], kept(site, ("old",), ("new",), Hold([APP_UP])))

    def test_it_does_not_grow(self):
        site = Site([many("app", ["up", "idle"], [("up", "idle")])])
        self.holds([APP_UP], kept(site, (), (), Hold([APP_UP])))
        self.holds([APP_IDLE], kept(site, (), (), Hold([APP_IDLE])))

    def test_the_empty_hold(self):
        self.holds([], kept(Site([]), (), (), Hold()))
        self.holds([], kept(Site(example_kinds()), ("old", "on"), ("new", "on"), Hold()))
        self.holds([], kept(Site([single("base", ["old", "new"])]), ("old",), ("new",), Hold()))

    def test_the_pair_does_not_have_to_be_sound(self):
        site = Site(example_kinds())
        self.holds([NEXT_IDLE], kept(site, ("new", "on"), ("old", "on"), Hold([APP_UP, NEXT_IDLE])))


class CrossedTest(Case):
    def holds(self, expected, found):
        self.assertIsInstance(found, Hold)
        self.assertEqual(list(found), expected)

    def test_the_crossing_of_the_example_is_not_possible(self):
        site = Site(example_kinds())
        hold = grown(site, ("old", "on"), Hold([APP_UP]))
        self.assertIsNone(crossed(site, ("old", "on"), ("new", "on"), hold))
        other = site.offered(("base", "new", "page"))
        self.assertIsNone(crossed(other, ("old", "on"), ("new", "on"), grown(other, ("old", "on"), Hold([APP_UP]))))

    def test_the_crossing_of_the_example_with_the_second_offer(self):
        site = Site(example_kinds()).offered(("base", "old", "d2"))
        hold = grown(site, ("old", "on"), Hold([APP_UP]))
        self.holds([APP_IDLE, APP_UP, NEXT_IDLE, NEXT_UP], hold)
        self.holds([APP_IDLE, NEXT_IDLE, NEXT_UP], crossed(site, ("old", "on"), ("new", "on"), hold))

    def test_not_possible_for_the_first_places_only(self):
        site = Site([single("base", ["old", "new"], [], [("old", ["x"], []), ("new", [], [])]), many("app", ["up"])])
        self.assertIsNone(crossed(site, ("old",), ("new",), Hold([APP_UP])))
        lost = Site([single("base", ["old", "new"], [], [("old", ["x"], ["y"])]),
                     many("app", ["up"], [], [("up", ["y"], ["x"])])])
        self.assertIsNone(lost.unmet(("old",), Hold([APP_UP])))
        self.assertIsNone(crossed(lost, ("old",), ("new",), Hold([APP_UP])))

    def test_not_possible_for_the_second_places_only(self):
        site = Site([single("base", ["old", "new"], [], [("new", ["x"], [])]), many("app", ["up"])])
        self.assertIsNone(crossed(site, ("old",), ("new",), Hold([APP_UP])))

    def test_not_possible_though_the_second_places_would_grow_what_is_needed(self):
        site = Site([single("base", ["old", "new"], [], [("new", ["x"], ["y"])]),
                     many("app", ["up"], [], [("up", ["y"], ["x"])])])
        self.assertIsNone(crossed(site, ("old",), ("new",), Hold()))
        self.assertIsNone(crossed(site, ("old",), ("new",), Hold([APP_UP])))

    def test_it_grows_with_the_second_places(self):
        self.holds([("last", "off"), ("last", "on")] + [("app", name) for name in "abcd"],
                   crossed(chain(), ("old",), ("new",), Hold()))
        self.holds([("last", "off")] + [("app", name) for name in "abc"],
                   crossed(chain(), ("new",), ("old",), Hold([("app", "d"), ("app", "b"), ("app", "c"), ("app", "a")])))

    def test_the_same_places_twice(self):
        self.holds([APP_IDLE, APP_UP, NEXT_IDLE],
                   crossed(Site(example_kinds()), ("old", "on"), ("old", "on"), Hold([APP_UP])))

    def test_the_pair_does_not_have_to_be_sound(self):
        site = Site(example_kinds()).offered(("user", "on", "page"))
        self.holds([APP_IDLE, NEXT_IDLE, NEXT_UP], crossed(site, ("old", "on"), ("new", "on"), Hold([APP_UP])))

    def test_places_that_differ_in_several_standings(self):
        found = crossed(three_singles(), ("on", "up", "off"), ("up", "off", "on"), three_singles().spots())
        self.holds([("one", "s"), ("one", "u"), ("two", "s"), ("two", "t")], found)

    def test_without_kinds(self):
        self.holds([], crossed(Site([]), (), (), Hold()))


class NamesTest(Case):
    def test_names_are_checked_in_order(self):
        site = Site(example_kinds())
        bad = Hold([APP_UP, ("none", "up"), ("app", "off")])
        for action in (kept, crossed):
            self.refused(Unknown("mid"), action, site, ("mid", "off"), ("low", "no"), bad)
            self.refused(Unknown("off"), action, site, ("old", "off"), ("low", "no"), bad)
            self.refused(Unknown("none"), action, site, ("old", "on"), ("low", "no"), bad)
            self.refused(Unknown("off"), action, site, ("old", "on"), ("low", "no"), Hold([("app", "off"), ("x", "y")]))
            self.refused(Unknown("user"), action, site, ("old", "on"), ("low", "no"), Hold([("user", "on")]))
            self.refused(Unknown("low"), action, site, ("old", "on"), ("low", "no"), Hold([NEXT_UP]))
            self.refused(Unknown("no"), action, site, ("old", "on"), ("new", "no"), Hold())


if __name__ == "__main__":
    unittest.main()
