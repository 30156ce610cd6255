"""Kinds (points 2 to 4 of the document, and soundyard/kinds.py of its interface)."""

import unittest

from soundyard.errors import NoStep, Repeated, Unknown
from soundyard.kinds import Doors, Many, Part, Single, Steps
from tests.helpers import Case

NAMES = ["old", "mid", "new"]


def step_kinds():
    return [Steps(NAMES), Part("base", NAMES), Single("base", NAMES), Many("base", NAMES)]


def door_kinds():
    return [Doors(NAMES), Part("base", NAMES), Single("base", NAMES), Many("base", NAMES)]


def makers_that_refuse_repeated_names():
    yield Steps
    for shape in (Part, Single, Many):
        yield lambda standings, shape=shape: shape("base", standings)


class StepsTest(Case):
    def test_standings_are_a_tuple_in_order(self):
        for kind in step_kinds():
            self.assertEqual(kind.standings(), ("old", "mid", "new"))
            self.assertIsInstance(kind.standings(), tuple)

    def test_standings_are_taken_from_a_tuple_too(self):
        self.assertEqual(Steps(("b", "a")).standings(), ("b", "a"))
        self.assertEqual(Many("app", ("b", "a")).standings(), ("b", "a"))

    def test_one_standing_is_enough(self):
        self.assertEqual(Steps(["on"]).standings(), ("on",))
        self.assertEqual(Steps(["on"]).steps_from("on"), ())

    def test_a_new_kind_has_no_steps(self):
        for kind in step_kinds():
            for standing in NAMES:
                self.assertEqual(kind.steps_from(standing), ())

    def test_steps_are_in_the_order_of_the_standings(self):
        for kind in step_kinds():
            kind.allow("mid", "new")
            kind.allow("mid", "old")
            self.assertEqual(kind.steps_from("mid"), ("old", "new"))
            self.assertIsInstance(kind.steps_from("mid"), tuple)

    def test_a_step_leads_one_way(self):
        for kind in step_kinds():
            kind.allow("old", "new")
            self.assertEqual(kind.steps_from("old"), ("new",))
            self.assertEqual(kind.steps_from("mid"), ())
            self.assertEqual(kind.steps_from("new"), ())

    def test_allow_returns_none_and_again_has_no_effect(self):
        for kind in step_kinds():
            self.assertIsNone(kind.allow("old", "new"))
            self.assertIsNone(kind.allow("old", "new"))
            self.assertEqual(kind.steps_from("old"), ("new",))

    def test_the_first_repeated_name_is_told(self):
        for make in makers_that_refuse_repeated_names():
            self.refused(Repeated("b"), make, ["a", "b", "c", "b", "a"])
            self.refused(Repeated("a"), make, ("a", "a", "b", "b"))
            self.refused(Repeated("a"), make, ["a", "b", "a", "b"])

    def test_unknown_standings_come_first_and_before_first(self):
        for kind in step_kinds():
            self.refused(Unknown("up"), kind.allow, "up", "new")
            self.refused(Unknown("up"), kind.allow, "old", "up")
            self.refused(Unknown("up"), kind.allow, "up", "down")
            self.refused(Unknown("up"), kind.allow, "up", "up")
            self.refused(Unknown("up"), kind.steps_from, "up")

    def test_no_step_leads_from_a_standing_to_itself(self):
        for kind in step_kinds():
            self.refused(NoStep("mid", "mid"), kind.allow, "mid", "mid")

    def test_a_refused_step_changes_nothing(self):
        for kind in step_kinds():
            kind.allow("old", "new")
            for before, after in (("mid", "mid"), ("mid", "up"), ("up", "mid")):
                with self.assertRaises(ValueError):
                    kind.allow(before, after)
            self.assertEqual(kind.standings(), ("old", "mid", "new"))
            self.assertEqual([kind.steps_from(name) for name in NAMES], [("new",), (), ()])

    def test_the_list_of_standings_is_copied_and_stays_as_it_was(self):
        for make in makers_that_refuse_repeated_names():
            given = ["old", "new"]
            kind = make(given)
            kind.allow("old", "new")
            self.assertEqual(given, ["old", "new"])
            given[0] = "up"
            given.append("more")
            self.assertEqual(kind.standings(), ("old", "new"))
            self.assertEqual(kind.steps_from("old"), ("new",))
            self.refused(Unknown("more"), kind.steps_from, "more")

    def test_two_objects_of_the_same_list_are_independent(self):
        one, other = Steps(NAMES), Steps(NAMES)
        one.allow("old", "new")
        self.assertEqual(other.steps_from("old"), ())


class DoorsTest(Case):
    def test_a_loop_goes_through_the_standings_in_order(self):
        for doors in door_kinds():
            self.assertEqual([standing for standing in doors], NAMES)
            self.assertEqual(list(doors), NAMES)
        self.assertEqual(list(Doors(())), [])
        self.assertEqual(list(Doors(("b", "a"))), ["b", "a"])

    def test_new_standings_need_and_give_nothing(self):
        for doors in door_kinds():
            for standing in doors:
                self.assertEqual(doors[standing], ((), ()))
                self.assertEqual(doors.needs(standing), ())
                self.assertEqual(doors.gives(standing), ())

    def test_doors_are_set_and_told(self):
        for doors in door_kinds():
            doors["mid"] = (["d2", "d1"], ("page",))
            self.assertEqual(doors["mid"], (("d2", "d1"), ("page",)))
            self.assertEqual(doors.needs("mid"), ("d2", "d1"))
            self.assertEqual(doors.gives("mid"), ("page",))
            self.assertEqual(doors["old"], ((), ()))
            self.assertEqual(doors["new"], ((), ()))
            self.assertEqual(list(doors), NAMES)

    def test_everything_told_is_a_tuple(self):
        doors = Doors(NAMES)
        doors["mid"] = (["d1"], ["d2"])
        for told in (doors["mid"], *doors["mid"], doors.needs("mid"), doors.gives("mid")):
            self.assertIsInstance(told, tuple)

    def test_setting_again_replaces_both(self):
        for doors in door_kinds():
            doors["old"] = (["d1"], ["d2"])
            doors["old"] = ([], ["d3"])
            self.assertEqual(doors["old"], ((), ("d3",)))
            doors["old"] = ((), ())
            self.assertEqual(doors["old"], ((), ()))

    def test_only_the_first_occurrence_of_a_door_counts(self):
        for doors in door_kinds():
            doors["new"] = (["b", "a", "b", "a", "c"], ["c", "c", "b", "c"])
            self.assertEqual(doors["new"], (("b", "a", "c"), ("c", "b")))

    def test_a_door_may_be_needed_and_given_at_once(self):
        doors = Doors(NAMES)
        doors["new"] = (["d1", "d2"], ["d2", "d1"])
        self.assertEqual(doors["new"], (("d1", "d2"), ("d2", "d1")))

    def test_unknown_standings_are_refused(self):
        for doors in door_kinds():
            self.refused(Unknown("up"), lambda: doors["up"])
            self.refused(Unknown("up"), doors.needs, "up")
            self.refused(Unknown("up"), doors.gives, "up")

    def test_setting_an_unknown_standing_changes_nothing(self):
        for doors in door_kinds():
            doors["old"] = (["d1"], ["d2"])

            def put():
                doors["up"] = (["d3"], ["d4"])
            self.refused(Unknown("up"), put)
            self.assertEqual(list(doors), NAMES)
            self.assertEqual([doors[name] for name in doors], [(("d1",), ("d2",)), ((), ()), ((), ())])
            self.refused(Unknown("up"), doors.needs, "up")

    def test_the_lists_of_doors_are_copied_and_stay_as_they_were(self):
        for doors in door_kinds():
            needs, gives = ["d1", "d1", "d2"], ["d3", "d3"]
            doors["old"] = (needs, gives)
            self.assertEqual((needs, gives), (["d1", "d1", "d2"], ["d3", "d3"]))
            needs.append("d4")
            gives.clear()
            self.assertEqual(doors["old"], (("d1", "d2"), ("d3",)))

    def test_the_list_of_standings_is_copied(self):
        given = ["old", "new"]
        doors = Doors(given)
        doors["old"] = (["d1"], [])
        self.assertEqual(given, ["old", "new"])
        given.append("more")
        given[0] = "up"
        self.assertEqual(list(doors), ["old", "new"])
        self.assertEqual(doors["old"], (("d1",), ()))

    def test_doors_can_be_set_in_a_loop_over_them(self):
        for doors in door_kinds():
            for standing in doors:
                doors[standing] = ([standing], [])
            self.assertEqual([doors.needs(name) for name in NAMES], [("old",), ("mid",), ("new",)])


class PartTest(Case):
    def test_the_name_is_a_field(self):
        for shape in (Part, Single, Many):
            self.assertEqual(shape("base", NAMES).name, "base")

    def test_the_classes(self):
        self.assertTrue(issubclass(Part, Steps) and issubclass(Part, Doors))
        self.assertTrue(issubclass(Single, Part) and issubclass(Many, Part))
        self.assertFalse(issubclass(Single, Many) or issubclass(Many, Single))

    def test_rows(self):
        self.assertEqual(Part("app", ["idle", "up"]).row(), "app: idle, up")
        self.assertEqual(Single("app", ["idle", "up"]).row(), "app: idle, up (one)")
        self.assertEqual(Many("app", ["idle", "up"]).row(), "app: idle, up (any number)")
        self.assertEqual(Part("b", ("z", "a", "m")).row(), "b: z, a, m")
        self.assertEqual(Single("user", ["on"]).row(), "user: on (one)")
        self.assertEqual(Many("user", ["on"]).row(), "user: on (any number)")

    def test_names_are_independent_of_each_other(self):
        for shape in (Part, Single, Many):
            kind = shape("a", ["a", "b"])
            kind.allow("a", "b")
            kind["a"] = (["a"], ["b", "a"])
            self.assertEqual(kind.row()[:7], "a: a, b")
            self.assertEqual(kind.steps_from("a"), ("b",))
            self.assertEqual(kind["a"], (("a",), ("b", "a")))

    def test_steps_and_doors_do_not_change_each_other(self):
        for shape in (Part, Single, Many):
            kind = shape("base", NAMES)
            kind.allow("old", "new")
            kind["old"] = (["d1"], ["d2"])
            self.assertEqual(kind.steps_from("old"), ("new",))
            self.assertEqual(kind["old"], (("d1",), ("d2",)))
            self.assertEqual(list(kind), NAMES)
            self.assertEqual(kind.standings(), tuple(NAMES))

    def test_keywords_of_the_interface(self):
        for shape in (Part, Single, Many):
            kind = shape(name="base", standings=NAMES)
            kind.allow(before="old", after="new")
            self.assertEqual(kind.steps_from(standing="old"), ("new",))
            self.assertEqual((kind.needs(standing="old"), kind.gives(standing="old")), ((), ()))


class TwinTest(Case):
    def made(self, shape):
        kind = shape("base", NAMES)
        kind.allow("old", "new")
        kind.allow("old", "mid")
        kind.allow("new", "old")
        kind["old"] = (["d2", "d1"], ["d3"])
        kind["new"] = ([], ["d4", "d3"])
        return kind

    def look(self, kind):
        steps = [kind.steps_from(name) for name in kind.standings()]
        return kind.name, kind.row(), list(kind), steps, [kind[name] for name in kind]

    def test_a_twin_is_a_new_object_of_the_same_class_and_content(self):
        for shape in (Single, Many):
            kind = self.made(shape)
            twin = kind.twin()
            self.assertIsNot(twin, kind)
            self.assertIs(type(twin), shape)
            self.assertEqual(self.look(twin), self.look(kind))
            self.assertEqual(self.look(twin), self.look(self.made(shape)))

    def test_a_twin_of_a_new_kind_has_no_steps_and_doors(self):
        for shape in (Single, Many):
            self.assertEqual(self.look(shape("app", ["idle"]).twin()), self.look(shape("app", ["idle"])))

    def test_later_changes_to_one_do_not_change_the_other(self):
        for shape in (Single, Many):
            kind = self.made(shape)
            twin = kind.twin()
            twin.allow("mid", "new")
            twin.allow("old", "new")
            twin["old"] = ([], [])
            self.assertEqual(self.look(kind), self.look(self.made(shape)))
            twin = kind.twin()
            kind.allow("mid", "old")
            kind["mid"] = (["d9"], ["d9"])
            self.assertEqual(self.look(twin), self.look(self.made(shape)))


class LimitsTest(Case):
    def test_somewhat_beyond_the_limits_is_no_error(self):
        names = [f"standing{number}of100" for number in range(100)]
        doors = [f"door{number}" for number in range(100)]
        kind = Many("averylongnameindeed", names)
        for name in names[1:]:
            kind.allow(names[0], name)
        kind[names[0]] = (doors, doors[::-1])
        self.assertEqual(kind.steps_from(names[0]), tuple(names[1:]))
        self.assertEqual(kind[names[0]], (tuple(doors), tuple(doors[::-1])))
        self.assertEqual(kind.row(), f"averylongnameindeed: {', '.join(names)} (any number)")


if __name__ == "__main__":
    unittest.main()
