"""Choices of further doors (points 8, 18 and 19, and soundyard/choices.py of the interface)."""

import inspect
import itertools
import unittest

from soundyard.choices import fewest_doors
from soundyard.errors import Unknown
from soundyard.lots import Hold
from soundyard.sites import Site
from soundyard.webs import Web
from tests.helpers import Case, example_kinds, many, rooms, single

APP_UP, APP_IDLE = ("app", "up"), ("app", "idle")
NEXT_UP, NEXT_IDLE = ("next", "up"), ("next", "idle")
OFFERS = [("base", "new", "page"), ("base", "old", "d2")]
OFFERS_OF_ROOMS = [("base", "hall", "ain"), ("base", "left", "bin"), ("base", "left", "b")]


def gate(*doors):
    """A site whose part `base` can go from a to b if all these doors are open at b."""
    return Site([single("lamp", ["on"]), single("base", ["a", "b"], [("a", "b")], [("b", doors, [])])])


def plain(refused):
    return [(choice, sorted([(places, list(hold)) for places, hold in closed])) for choice, closed in refused]


class ChoiceCase(Case):
    def chosen(self, expected, site, offers, places, spots):
        """Check the choice, and that the refused ones stand with the pairs of their webs; return the refused ones."""
        found = fewest_doors(site, offers, goal_places=places, goal_hold=Hold(spots))
        self.assertIsInstance(found, tuple)
        chosen, refused = found
        self.assertEqual(chosen, expected)
        self.assertIsInstance(refused, list)
        choices = [choice for size in range(len(offers) + 1)
                   for choice in itertools.combinations(range(len(offers)), size)]
        before = choices if chosen is None else choices[:choices.index(chosen)]
        self.assertEqual([choice for choice, _ in refused], before)
        for choice, closed in refused:
            self.assertIsInstance(closed, list)
            web = Web(site.offered(*[offers[at] for at in choice]))
            self.assertEqual(plain([(choice, closed)]), plain([(choice, web.pairs())]))
        return refused


class ExampleTest(ChoiceCase):
    def fewest(self, offers):
        return fewest_doors(Site(example_kinds()), offers, places=("old", "on"), hold=Hold([APP_UP]),
                            goal_places=("new", "on"), goal_hold=Hold([NEXT_UP]))

    def test_the_example(self):
        chosen, refused = self.fewest(OFFERS)
        self.assertEqual(chosen, (1,))
        first = [(("old", "on"), [APP_IDLE, APP_UP, NEXT_IDLE])]
        self.assertEqual(plain(refused), [((), first), ((0,), first)])

    def test_only_the_offers_in_another_order(self):
        self.assertEqual(self.fewest(OFFERS[::-1])[0], (0,))
        self.assertEqual(self.fewest(OFFERS[:1])[0], None)
        self.assertEqual(plain(self.fewest([])[1]), [((), [(("old", "on"), [APP_IDLE, APP_UP, NEXT_IDLE])])])


class OrderTest(ChoiceCase):
    def test_without_offers(self):
        self.assertEqual(self.chosen((), rooms(), [], ("hall",), [("one", "on")]), [])
        refused = self.chosen(None, rooms(), [], ("hall",), [("one", "on"), ("two", "on")])
        self.assertEqual(len(refused), 1)

    def test_a_goal_that_needs_no_offer(self):
        self.assertEqual(self.chosen((), rooms(), OFFERS_OF_ROOMS, ("left",), [("one", "in")]), [])

    def test_shorter_choices_come_first_and_then_lesser_ones(self):
        offers = [("lamp", "on", "x"), ("base", "b", "y"), ("base", "a", "y"), ("base", "b", "x"), ("base", "a", "x")]
        self.chosen((0,), gate("x"), offers, ("on", "b"), [])
        self.chosen((1,), gate("y"), offers, ("on", "b"), [])
        self.chosen((0, 1), gate("x", "y"), offers, ("on", "b"), [])
        self.chosen((0, 3), gate("x", "y"), [offers[3], offers[4], offers[2], offers[1]], ("on", "b"), [])
        self.chosen((1, 2), gate("x", "y"), [offers[2], offers[1], offers[3]], ("on", "b"), [])
        self.chosen((1, 3), gate("x", "y"), [offers[4], offers[0], offers[2], offers[1]], ("on", "b"), [])

    def test_all_five_offers_and_one_beyond(self):
        doors = ["u", "v", "w", "x", "y", "z"]
        offers = [("lamp", "on", door) for door in doors]
        self.assertEqual(len(self.chosen((0, 1, 2, 3, 4), gate(*doors[:5]), offers[:5], ("on", "b"), [])), 31)
        self.chosen((1, 2, 3, 4), gate(*doors[1:5]), offers[:5], ("on", "b"), [])
        self.chosen((0, 2, 4), gate("u", "w", "y"), offers[:5], ("on", "b"), [])
        self.assertEqual(len(self.chosen(None, gate(*doors), offers[:5], ("on", "b"), [])), 32)
        self.chosen((0, 1, 2, 3, 4, 5), gate(*doors), offers, ("on", "b"), [])

    def test_the_same_offer_twice_and_a_door_that_is_given_already(self):
        lamp, base = ("lamp", "on", "x"), ("base", "a", "y")
        self.chosen((1,), gate("x"), [base, lamp, lamp], ("on", "b"), [])
        self.chosen(None, gate("x", "y"), [lamp, lamp, base], ("on", "b"), [])

    def test_offers_of_many_kinds(self):
        site = Site([many("app", ["idle", "up"], [("idle", "up")], [("up", ["x"], [])])])
        self.chosen((1,), site, [("app", "up", "y"), ("app", "up", "x"), ("app", "idle", "x")], (), [APP_UP])
        self.chosen((1,), site, [("app", "up", "y"), ("app", "idle", "x")], (), [APP_UP, APP_IDLE])

    def test_a_goal_that_is_not_sound_in_the_site_or_with_any_offer(self):
        site = Site([many("app", ["idle", "up"], [("idle", "up")], [("up", ["x"], [])])])
        # Copies at up come about with the second offer, but they alone do not give x.
        self.chosen(None, site, [("app", "up", "y"), ("app", "idle", "x")], (), [APP_UP])
        self.chosen(None, site, [], (), [APP_UP])


class StartTest(ChoiceCase):
    def test_the_start_is_given_as_for_a_web(self):
        site = rooms()
        both = Hold([("one", "on"), ("two", "on")])
        goal = {"goal_places": ("hall",), "goal_hold": both}
        self.assertEqual(fewest_doors(site, [], hold=both, **goal), ((), []))
        self.assertEqual(fewest_doors(site, [], places=("hall",), hold=both, **goal), ((), []))
        chosen, refused = fewest_doors(site, [], places=("left",), **goal)
        self.assertIsNone(chosen)
        self.assertEqual(plain(refused), plain([((), Web(site, places=("left",)).pairs())]))
        chosen, refused = fewest_doors(site, [], places=None, hold=None, **goal)
        self.assertEqual((chosen, plain(refused)), (None, plain([((), Web(site).pairs())])))

    def test_names_of_the_arguments(self):
        given = inspect.signature(fewest_doors).parameters
        self.assertEqual(list(given), ["site", "offers", "places", "hold", "goal_places", "goal_hold"])
        for name in list(given)[2:]:
            self.assertEqual(given[name].kind, inspect.Parameter.KEYWORD_ONLY)
        for name in ("goal_places", "goal_hold"):
            self.assertIs(given[name].default, inspect.Parameter.empty)


class WrongTest(ChoiceCase):
    def fails(self, expected, offers, places, spots, goal_places, goal_spots):
        self.refused(expected, lambda: fewest_doors(
            Site(example_kinds()), offers, places=places, hold=Hold(spots), goal_places=goal_places,
            goal_hold=Hold(goal_spots)))

    def test_the_order_of_the_errors(self):
        wrong, on = [("none", "up", "x")], ("old", "on")
        self.fails(Unknown("mid"), wrong, ("mid", "on"), [("no", "up")], ("low", "on"), [("nil", "up")])
        self.fails(Unknown("off"), wrong, ("old", "off"), [("no", "up")], ("low", "on"), [("nil", "up")])
        self.fails(Unknown("no"), wrong, on, [("no", "up")], ("low", "on"), [("nil", "up")])
        self.unmet(("user", "on", "page"), lambda: fewest_doors(
            Site(example_kinds()), wrong, goal_places=("low", "on"), goal_hold=Hold([("nil", "up")])))
        self.fails(Unknown("low"), wrong, on, [APP_UP], ("low", "off"), [("nil", "up")])
        self.fails(Unknown("off"), wrong, on, [APP_UP], ("new", "off"), [("nil", "up")])
        self.fails(Unknown("nil"), wrong, on, [APP_UP], on, [APP_UP, ("nil", "up"), ("app", "mid")])
        self.fails(Unknown("mid"), wrong, on, [APP_UP], on, [APP_UP, ("app", "mid"), ("nil", "up")])
        self.fails(Unknown("none"), wrong, on, [APP_UP], on, [NEXT_UP])

    def test_offers_are_checked_before_any_choice_is_tried(self):
        on = ("old", "on")
        for offers, name in [
            ([("none", "up", "x")], "none"), ([("app", "mid", "x")], "mid"), ([("base", "up", "x")], "up"),
            (OFFERS + [("user", "off", "x"), ("none", "up", "x")], "off"),
            (OFFERS + [("none", "mid", "x"), ("user", "off", "x")], "none"),
        ]:
            # The empty choice would do, and the second offer as well.
            self.fails(Unknown(name), offers, on, [APP_UP], on, [APP_UP])
            self.fails(Unknown(name), offers, on, [APP_UP], ("new", "on"), [NEXT_UP])

    def test_offers_do_not_make_a_start_sound(self):
        self.unmet(("user", "on", "page"), lambda: fewest_doors(
            Site(example_kinds()), [("user", "on", "page")], goal_places=("old", "on"), goal_hold=Hold()))

    def test_what_is_passed_stays_as_it_was(self):
        site, offers = rooms(), list(OFFERS_OF_ROOMS)
        start, goal = Hold([("two", "on"), ("one", "on")]), Hold([("two", "in"), ("one", "in")])
        found = fewest_doors(site, offers, hold=start, goal_places=("left",), goal_hold=goal)
        self.assertEqual(offers, OFFERS_OF_ROOMS)
        self.assertEqual((list(start), list(goal)), ([("two", "on"), ("one", "on")], [("two", "in"), ("one", "in")]))
        self.assertEqual(site.opened(("hall",), Hold()), ("a", "b"))
        again = fewest_doors(site, offers, hold=start, goal_places=("left",), goal_hold=goal)
        self.assertEqual((again[0], plain(again[1])), (found[0], plain(found[1])))
        found[1][0][1].clear()
        self.assertEqual(plain(fewest_doors(site, offers, hold=start, goal_places=("left",), goal_hold=goal)[1]),
                         plain(again[1]))


if __name__ == "__main__":
    unittest.main()
