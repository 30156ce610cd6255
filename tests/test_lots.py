"""Lots (points 2 and 5 of the document, and soundyard/lots.py of its interface)."""

import unittest
from unittest import mock

from soundyard.errors import BadCount, Lacking
from soundyard.lots import Hold, Lot
from tests.helpers import HUGE, LONG, Case


def idle(count):
    return ("app", "idle", count)


def up(count):
    return ("app", "up", count)


def on(count):
    return ("next", "on", count)


class MakingTest(Case):
    def test_a_loop_goes_through_the_rows_in_order(self):
        self.assertEqual(list(Lot([up(2), idle(1)])), [up(2), idle(1)])
        self.assertEqual(list(Lot((idle(1), up(2)))), [idle(1), up(2)])
        self.assertEqual([count for kind, standing, count in Lot([on(3), up(2)])], [3, 2])

    def test_counts_of_the_same_spot_are_added_up_at_the_first(self):
        self.assertEqual(list(Lot([up(2), idle(1), up(3), on(4), up(1)])), [up(6), idle(1), on(4)])

    def test_rows_are_tuples(self):
        for row in Lot([up(2), idle(1)]):
            self.assertIsInstance(row, tuple)

    def test_an_empty_lot(self):
        for lot in (Lot(), Lot([]), Lot(()), Lot(rows=[])):
            self.assertEqual(list(lot), [])
            self.assertEqual(len(lot), 0)
            self.assertEqual(lot.total, 0)
            self.assertEqual(lot["app", "up"], 0)
            self.assertIs(("app", "up") in lot, False)
            self.assertEqual(list(lot.spots()), [])
            self.assertIs(lot == Lot(), True)

    def test_the_first_count_below_one_is_told(self):
        self.refused(BadCount(0), Lot, [up(0)])
        self.refused(BadCount(-2), Lot, [up(1), idle(-2), on(0)])
        self.refused(BadCount(0), Lot, (up(1), on(0), idle(-2)))
        self.refused(BadCount(-LONG), Lot, [up(LONG), up(-LONG)])

    def test_each_row_counts_at_least_one_whatever_the_sum(self):
        self.refused(BadCount(-2), Lot, [up(5), up(-2)])
        self.refused(BadCount(-2), Lot, [up(-2), up(5)])
        self.refused(BadCount(0), Lot, [up(5), up(0)])

    def test_one_copy(self):
        lot = Lot.one("app", "up")
        self.assertIsInstance(lot, Lot)
        self.assertEqual(list(lot), [up(1)])
        self.assertEqual(list(Lot.one(kind="next", standing="on")), [on(1)])

    def test_the_list_is_copied_and_stays_as_it_was(self):
        given = [up(2), idle(1), up(2)]
        lot = Lot(given)
        lot += Lot([on(1)])
        self.assertEqual(given, [up(2), idle(1), up(2)])
        given.clear()
        self.assertEqual(list(lot), [up(4), idle(1), on(1)])

    def test_changing_what_a_loop_gave_does_not_change_the_lot(self):
        lot = Lot([up(2), idle(1)])
        rows = list(lot)
        rows.clear()
        self.assertEqual(list(lot), [up(2), idle(1)])

    def test_a_loop_over_a_lot_may_change_it(self):
        lot = Lot([up(2), idle(1)])
        for kind, standing, count in lot:
            lot += Lot([("next", standing, count)])
            lot -= Lot.one(kind, standing)
        self.assertEqual(list(lot), [up(1), ("next", "up", 2), ("next", "idle", 1)])

    def test_somewhat_beyond_the_limits_is_no_error(self):
        rows = [("averylongnameindeed", f"standing{number}of200", number + 1) for number in range(200)]
        self.assertEqual(list(Lot(rows) + Lot(rows)), list(2 * Lot(rows)))


class AskingTest(Case):
    def test_the_length_is_the_number_of_spots(self):
        self.assertEqual(len(Lot([up(2), idle(1), up(3)])), 2)

    def test_a_spot_is_in_a_lot(self):
        lot = Lot([up(2)])
        self.assertIs(("app", "up") in lot, True)
        self.assertIs(("app", "idle") in lot, False)
        self.assertIs(("up", "app") in lot, False)

    def test_counts_by_spot(self):
        lot = Lot([up(2), idle(1), up(3)])
        self.assertEqual((lot["app", "up"], lot["app", "idle"], lot["next", "on"]), (5, 1, 0))
        spot = ("app", "up")
        self.assertEqual(lot[spot], 5)
        self.assertEqual(list(lot), [up(5), idle(1)])

    def test_asking_for_a_spot_adds_none(self):
        lot = Lot([up(2)])
        self.assertEqual(lot["next", "on"], 0)
        self.assertIs(("next", "on") in lot, False)
        self.assertEqual(len(lot), 1)

    def test_the_total_is_a_property(self):
        self.assertIsInstance(Lot.total, property)
        self.assertEqual(Lot([up(2), idle(1), up(3)]).total, 6)

    def test_the_hold_in_the_order_of_the_rows(self):
        lot = Lot([up(2), on(4), idle(1), up(3)])
        self.assertIsInstance(lot.spots(), Hold)
        self.assertEqual(list(lot.spots()), [("app", "up"), ("next", "on"), ("app", "idle")])

    def test_a_hold_stays_when_the_lot_changes(self):
        lot = Lot([up(2)])
        hold = lot.spots()
        lot += Lot([on(1)])
        lot -= Lot([up(2)])
        self.assertEqual(list(hold), [("app", "up")])
        self.assertEqual(list(lot.spots()), [("next", "on")])

    def test_spots_whose_letters_are_the_same_when_joined_differ(self):
        lot = Lot([("ab", "c", 1), ("a", "bc", 2)])
        self.assertEqual(list(lot), [("ab", "c", 1), ("a", "bc", 2)])
        self.assertEqual((lot["ab", "c"], lot["a", "bc"], lot["abc", ""]), (1, 2, 0))
        self.assertIs(("a", "bc") in Lot.one("ab", "c"), False)
        self.assertIs(Lot.one("ab", "c") == Lot.one("a", "bc"), False)
        self.assertIs(Lot.one("ab", "c") <= Lot.one("a", "bc"), False)
        self.refused(Lacking("a", "bc"), lambda: Lot.one("ab", "c") - Lot.one("a", "bc"))

    def test_counts_of_any_size(self):
        lot = Lot([up(HUGE), idle(1), up(HUGE), on(LONG)])
        self.assertEqual(lot["app", "up"], 200000000000000000000000000014)
        self.assertEqual(lot.total, 2 * HUGE + 1 + LONG)
        self.assertEqual(list(lot * HUGE), [up(2 * HUGE * HUGE), idle(HUGE), on(LONG * HUGE)])
        self.assertEqual(list(lot - Lot([up(2 * HUGE - 1), on(LONG)])), [up(1), idle(1)])
        self.assertIs(Lot([up(HUGE)]) <= Lot([up(HUGE + 1)]), True)
        self.assertIs(Lot([up(HUGE + 1)]) <= Lot([up(HUGE)]), False)
        self.assertIs(Lot([up(HUGE + 1)]) == Lot([up(HUGE)]), False)


class ComparingTest(Case):
    def test_at_most(self):
        self.assertIs(Lot() <= Lot(), True)
        self.assertIs(Lot() <= Lot([up(1)]), True)
        self.assertIs(Lot([up(1)]) <= Lot(), False)
        self.assertIs(Lot([up(2), idle(1)]) <= Lot([on(1), idle(1), up(3)]), True)
        self.assertIs(Lot([up(2)]) <= Lot([up(2)]), True)
        self.assertIs(Lot([up(3)]) <= Lot([up(2), idle(9)]), False)
        self.assertIs(Lot([up(1), on(1)]) <= Lot([up(9)]), False)

    def test_equal_in_any_order(self):
        self.assertIs(Lot([up(2), idle(1)]) == Lot([idle(1), up(1), up(1)]), True)
        self.assertIs(Lot([up(2), idle(1)]) != Lot([idle(1), up(2)]), False)
        self.assertIs(Lot([up(2)]) == Lot([up(1)]), False)
        self.assertIs(Lot([up(2)]) != Lot([up(1)]), True)
        self.assertIs(Lot([up(2)]) == Lot([up(2), idle(1)]), False)
        self.assertIs(Lot([up(2), idle(1)]) == Lot([up(2)]), False)
        self.assertIs(Lot([up(2)]) == Lot([on(2)]), False)

    def test_equal_to_nothing_but_lots(self):
        lot = Lot([up(1)])
        for other in ([up(1)], (up(1),), up(1), {up(1)}, 1, "up", None, Hold([("app", "up")]), mock.ANY):
            self.assertIs(lot == other, False)
        for other in ((), [], {}, None, 0, False, Hold()):
            self.assertIs(Lot() == other, False)
            self.assertIs(Lot() != other, True)


class CalculatingTest(Case):
    def test_a_sum_has_the_rows_of_the_first_and_then_of_the_second(self):
        self.assertEqual(list(Lot([up(2), idle(1)]) + Lot([on(4), idle(5)])), [up(2), idle(6), on(4)])
        self.assertEqual(list(Lot([on(4), idle(5)]) + Lot([up(2), idle(1)])), [on(4), idle(6), up(2)])
        self.assertEqual(list(Lot() + Lot([up(1)])), [up(1)])
        self.assertEqual(list(Lot([up(1)]) + Lot()), [up(1)])
        self.assertEqual(list(Lot() + Lot()), [])

    def test_a_difference_is_in_the_order_of_the_first(self):
        lot = Lot([up(5), on(2), idle(3)])
        self.assertEqual(list(lot - Lot([idle(1), up(2)])), [up(3), on(2), idle(2)])
        self.assertEqual(list(lot - Lot()), [up(5), on(2), idle(3)])

    def test_a_difference_leaves_spots_without_copies_out(self):
        lot = Lot([up(5), on(2), idle(3)])
        self.assertEqual(list(lot - Lot([on(2)])), [up(5), idle(3)])
        self.assertIs(("next", "on") in lot - Lot([on(2)]), False)
        self.assertEqual(list(lot - lot), [])
        self.assertEqual(list(Lot() - Lot()), [])

    def test_the_first_row_with_too_few_copies_is_told(self):
        lot = Lot([up(5), idle(3)])
        self.refused(Lacking("app", "up"), lambda: lot - Lot([up(6)]))
        self.refused(Lacking("next", "on"), lambda: lot - Lot([on(1)]))
        self.refused(Lacking("next", "on"), lambda: lot - Lot([idle(3), on(1), up(6)]))
        self.refused(Lacking("app", "idle"), lambda: lot - Lot([idle(4), up(6)]))
        self.refused(Lacking("app", "up"), lambda: lot - Lot([up(6), idle(4)]))
        self.refused(Lacking("app", "up"), lambda: Lot() - Lot([up(1)]))

    def test_rows_with_the_same_spot_are_taken_together(self):
        self.refused(Lacking("app", "up"), lambda: Lot([up(5)]) - Lot([up(3), on(1), up(3)]))
        self.assertEqual(list(Lot([up(3), up(3)]) - Lot([up(5)])), [up(1)])

    def test_a_product_from_both_sides(self):
        lot = Lot([up(2), idle(1)])
        self.assertEqual(list(lot * 3), [up(6), idle(3)])
        self.assertEqual(list(3 * lot), [up(6), idle(3)])
        self.assertEqual(list(lot * 1), [up(2), idle(1)])
        self.assertEqual(list(Lot() * 7), [])

    def test_a_product_with_zero_is_the_empty_lot(self):
        for made in (Lot([up(2), idle(1)]) * 0, 0 * Lot([up(2), idle(1)]), Lot() * 0):
            self.assertIsInstance(made, Lot)
            self.assertEqual((list(made), len(made), made.total), ([], 0, 0))

    def test_a_product_with_a_negative_integer_is_refused(self):
        for lot in (Lot([up(2), idle(1)]), Lot()):
            self.refused(BadCount(-1), lambda: lot * -1)
            self.refused(BadCount(-7), lambda: -7 * lot)
            self.refused(BadCount(-LONG), lambda: lot * -LONG)

    def test_the_operators_give_new_lots_and_change_none(self):
        one, other = Lot([up(2), idle(1)]), Lot([up(1)])
        for make in (lambda: one + other, lambda: one - other, lambda: one * 1, lambda: 1 * one):
            made = make()
            self.assertIsInstance(made, Lot)
            self.assertIsNot(made, one)
            made += Lot([on(9)])
        for made in (one + Lot(), Lot() + one, one - Lot()):
            made += Lot([on(9)])
        self.assertEqual((list(one), list(other)), ([up(2), idle(1)], [up(1)]))

    def test_a_product_with_an_assignment_gives_a_new_lot(self):
        one = Lot([up(2)])
        other = one
        other *= 3
        self.assertEqual((list(one), list(other)), ([up(2)], [up(6)]))


class ChangingTest(Case):
    def test_adding_changes_the_lot_itself(self):
        lot = Lot([up(2), idle(1)])
        same = lot
        lot += Lot([on(4), idle(5)])
        self.assertIs(lot, same)
        self.assertEqual(list(same), [up(2), idle(6), on(4)])
        self.assertEqual((same.total, same["next", "on"], len(same)), (12, 4, 3))

    def test_subtracting_changes_the_lot_itself(self):
        lot = Lot([up(2), idle(1), on(3)])
        same = lot
        lot -= Lot([on(1), up(2)])
        self.assertIs(lot, same)
        self.assertEqual(list(same), [idle(1), on(2)])
        self.assertIs(("app", "up") in same, False)

    def test_a_spot_that_comes_back_is_the_last(self):
        lot = Lot([up(2), idle(1)])
        lot -= Lot([up(2)])
        lot += Lot([up(1)])
        self.assertEqual(list(lot), [idle(1), up(1)])

    def test_a_lot_in_a_list_is_changed_in_place(self):
        lot = Lot([up(2)])
        kept = [lot]
        kept[0] += Lot([up(1)])
        kept[0] -= Lot([up(2)])
        self.assertEqual(list(lot), [up(1)])

    def test_the_other_lot_stays_as_it_was_and_apart(self):
        lot, other = Lot(), Lot([up(2), idle(1)])
        lot += other
        lot += Lot([on(1)])
        lot -= Lot([up(2)])
        self.assertEqual(list(other), [up(2), idle(1)])
        other += Lot([up(7)])
        self.assertEqual(list(lot), [idle(1), on(1)])
        lot -= Lot([idle(1)])
        self.assertEqual(list(other), [up(9), idle(1)])

    def test_with_the_empty_lot_nothing_changes(self):
        lot = Lot([up(2), idle(1)])
        lot += Lot()
        lot -= Lot()
        self.assertEqual(list(lot), [up(2), idle(1)])

    def test_a_refused_subtraction_changes_nothing(self):
        lot = Lot([up(2), idle(1)])
        same = lot

        def subtract(rows):
            nonlocal lot
            lot -= Lot(rows)
        self.refused(Lacking("app", "idle"), subtract, [up(1), idle(2), on(1)])
        self.refused(Lacking("next", "on"), subtract, [up(2), idle(1), on(1)])
        self.assertIs(lot, same)
        self.assertEqual(list(lot), [up(2), idle(1)])
        lot -= Lot([up(2), idle(1)])
        self.assertEqual(list(same), [])


if __name__ == "__main__":
    unittest.main()
