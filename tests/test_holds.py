"""Holds (points 2 and 5 of the document, and soundyard/lots.py of its interface)."""

import unittest
from unittest import mock

from soundyard.lots import Hold, Lot
from tests.helpers import Case

IDLE, UP, ON = ("app", "idle"), ("app", "up"), ("next", "on")


class HoldTest(Case):
    def test_a_loop_goes_in_the_order_of_the_first_occurrence(self):
        self.assertEqual(list(Hold([UP, IDLE, UP, ON, IDLE])), [UP, IDLE, ON])
        self.assertEqual([spot for spot in Hold((ON, UP, ON))], [ON, UP])

    def test_spots_are_tuples(self):
        for spot in Hold([UP, IDLE]):
            self.assertIsInstance(spot, tuple)

    def test_the_length_is_the_number_of_spots(self):
        self.assertEqual(len(Hold([UP, IDLE, UP])), 2)
        self.assertEqual(len(Hold([UP])), 1)

    def test_an_empty_hold(self):
        for hold in (Hold(), Hold([]), Hold(()), Hold(rows=[])):
            self.assertEqual(list(hold), [])
            self.assertEqual(len(hold), 0)
            self.assertIs(UP in hold, False)
            self.assertIs(hold == Hold(), True)

    def test_a_spot_is_in_a_hold(self):
        hold = Hold([UP, ON])
        self.assertIs(UP in hold, True)
        self.assertIs(IDLE in hold, False)
        self.assertIs(("up", "app") in hold, False)
        self.assertIs(("next", "up") in hold, False)

    def test_spots_whose_letters_are_the_same_when_joined_differ(self):
        hold = Hold([("ab", "c"), ("a", "bc")])
        self.assertEqual(list(hold), [("ab", "c"), ("a", "bc")])
        self.assertIs(("abc", "") in hold, False)
        self.assertIs(("a", "bc") in Hold([("ab", "c")]), False)
        self.assertIs(Hold([("ab", "c")]) == Hold([("a", "bc")]), False)
        self.assertIs(Hold([("ab", "c")]) <= Hold([("a", "bc")]), False)
        self.assertEqual(list(Hold([("ab", "c")]) & Hold([("a", "bc")])), [])
        self.assertEqual(list(Hold([("ab", "c")]) - Hold([("a", "bc")])), [("ab", "c")])

    def test_part_of(self):
        self.assertIs(Hold() <= Hold(), True)
        self.assertIs(Hold() <= Hold([UP]), True)
        self.assertIs(Hold([UP]) <= Hold(), False)
        self.assertIs(Hold([UP, IDLE]) <= Hold([ON, IDLE, UP]), True)
        self.assertIs(Hold([UP, IDLE]) <= Hold([IDLE, UP]), True)
        self.assertIs(Hold([UP, IDLE]) <= Hold([UP, ON]), False)
        self.assertIs(Hold([UP, ON]) <= Hold([UP]), False)

    def test_equal_in_any_order(self):
        self.assertIs(Hold([UP, IDLE]) == Hold([IDLE, UP, IDLE]), True)
        self.assertIs(Hold([UP, IDLE]) != Hold([IDLE, UP]), False)
        self.assertIs(Hold([UP, IDLE]) == Hold([UP]), False)
        self.assertIs(Hold([UP]) == Hold([UP, IDLE]), False)
        self.assertIs(Hold([UP]) == Hold([ON]), False)
        self.assertIs(Hold([UP]) != Hold([ON]), True)

    def test_equal_to_nothing_but_holds(self):
        hold = Hold([UP])
        for other in ([UP], (UP,), {UP}, {UP: True}, UP, 1, "up", None, Lot([("app", "up", 1)]), mock.ANY):
            self.assertIs(hold == other, False)
        for other in ((), [], None, 0, False, Lot()):
            self.assertIs(Hold() == other, False)
            self.assertIs(Hold() != other, True)

    def test_both_together_in_order(self):
        self.assertEqual(list(Hold([UP, IDLE]) | Hold([ON, IDLE])), [UP, IDLE, ON])
        self.assertEqual(list(Hold([ON, IDLE]) | Hold([UP, IDLE])), [ON, IDLE, UP])
        self.assertEqual(list(Hold() | Hold([UP])), [UP])
        self.assertEqual(list(Hold([UP]) | Hold()), [UP])
        self.assertEqual(list(Hold() | Hold()), [])

    def test_what_both_have_in_the_order_of_the_first(self):
        self.assertEqual(list(Hold([UP, IDLE, ON]) & Hold([ON, UP])), [UP, ON])
        self.assertEqual(list(Hold([ON, UP]) & Hold([UP, IDLE, ON])), [ON, UP])
        self.assertEqual(list(Hold([UP]) & Hold([ON])), [])
        self.assertEqual(list(Hold() & Hold([ON])), [])

    def test_what_only_the_first_has(self):
        self.assertEqual(list(Hold([UP, IDLE, ON]) - Hold([IDLE])), [UP, ON])
        self.assertEqual(list(Hold([ON, IDLE, UP]) - Hold([IDLE, ("next", "off")])), [ON, UP])
        self.assertEqual(list(Hold([UP]) - Hold([UP])), [])
        self.assertEqual(list(Hold() - Hold([UP])), [])
        self.assertEqual(list(Hold([UP]) - Hold()), [UP])

    def test_the_operators_give_new_holds_and_change_none(self):
        one, other = Hold([UP, IDLE]), Hold([ON, IDLE])
        for made in (one | other, one & other, one - other):
            self.assertIsInstance(made, Hold)
        self.assertEqual((list(one), list(other)), ([UP, IDLE], [ON, IDLE]))

    def test_an_operator_with_an_assignment_does_not_change_the_hold(self):
        one = Hold([UP])
        other = one
        other |= Hold([ON])
        self.assertEqual(list(one), [UP])
        self.assertEqual(list(other), [UP, ON])
        other -= Hold([UP])
        other &= Hold([UP])
        self.assertEqual(list(one), [UP])

    def test_the_list_is_copied_and_stays_as_it_was(self):
        given = [UP, IDLE, UP]
        hold = Hold(given)
        self.assertEqual(given, [UP, IDLE, UP])
        given.append(ON)
        given[0] = ON
        self.assertEqual(list(hold), [UP, IDLE])

    def test_changing_what_a_loop_gave_does_not_change_the_hold(self):
        hold = Hold([UP, IDLE])
        spots = list(hold)
        spots.clear()
        self.assertEqual(list(hold), [UP, IDLE])

    def test_two_loops_over_one_hold_are_independent(self):
        hold = Hold([UP, IDLE])
        pairs = [(one, other) for one in hold for other in hold]
        self.assertEqual(pairs, [(UP, UP), (UP, IDLE), (IDLE, UP), (IDLE, IDLE)])

    def test_somewhat_beyond_the_limits_is_no_error(self):
        spots = [("averylongnameindeed", f"standing{number}of200") for number in range(200)]
        self.assertEqual(list(Hold(spots) | Hold(spots)), spots)


if __name__ == "__main__":
    unittest.main()
