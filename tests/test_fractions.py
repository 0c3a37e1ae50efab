"""Promises 2 and 8: fractions."""

import unittest
from fractions import Fraction

from tests.common import NO_FRACTIONS, OTHER_KINDS, RefusalCase, pair
from withinshapes.errors import BadParameter
from withinshapes.fractions import fraction, less, minus, need_fraction, over, plus, times

# Two of forty figures, without a common divisor.
LONG = 1234567890123456789012345678901234567890
OTHER_LONG = 9876543210987654321098765432109876543211
# A prime, of which powers and their like have no common divisor.
PRIME = 2 ** 127 - 1

SOME = (
    (0, 1), (1, 1), (-1, 1), (7, 1), (-12, 1), (1, 2), (-1, 2), (2, 3), (-2, 3), (3, 4), (-7, 6), (22, 7), (1, 100),
    (LONG, 1), (-LONG, 1), (1, LONG), (-1, LONG), (LONG, LONG + 1), (-LONG, LONG + 1), (OTHER_LONG, PRIME),
    (PRIME ** 40, PRIME ** 39 + 1), (1, PRIME ** 40),
)


class NeedFractionTest(RefusalCase):
    def test_fractions_are_returned(self):
        for value in SOME:
            self.assertIs(need_fraction(value), value)

    def test_what_is_none_is_refused(self):
        self.each_refused(BadParameter, NO_FRACTIONS, need_fraction, [None], 0)

    def test_a_pair_not_in_least_terms_is_refused(self):
        for value in ((2, 2), (6, 4), (-6, 4), (0, 3), (LONG * 3, 3), (LONG, LONG)):
            self.refused_value(BadParameter, value, need_fraction, value)


class FractionTest(RefusalCase):
    def test_least_terms(self):
        told = {(1, 2): (1, 2), (2, 4): (1, 2), (6, 3): (2, 1), (0, 5): (0, 1), (0, 1): (0, 1), (-4, 6): (-2, 3)}
        for given, answer in told.items():
            self.assertEqual(fraction(*given), answer)

    def test_below_less_than_nought(self):
        told = {(1, -2): (-1, 2), (-1, -2): (1, 2), (4, -6): (-2, 3), (-4, -6): (2, 3), (0, -5): (0, 1), (6, -3): (-2, 1)}
        for given, answer in told.items():
            self.assertEqual(fraction(*given), answer)

    def test_forty_figures(self):
        self.assertEqual(fraction(LONG * OTHER_LONG, OTHER_LONG * 10), (LONG // 10, 1))
        self.assertEqual(fraction(6 * 10 ** 40, -4 * 10 ** 40), (-3, 2))

    def test_all_small_ones_are_as_pythons_own(self):
        for above in range(-12, 13):
            for below in list(range(-12, 0)) + list(range(1, 13)):
                self.assertEqual(fraction(above, below), pair(Fraction(above, below)))

    def test_above_that_is_no_integer(self):
        self.each_refused(BadParameter, OTHER_KINDS + ((1, 1), (1, 2)), fraction, [1, 2], 0)

    def test_below_that_is_no_integer_or_nought(self):
        self.each_refused(BadParameter, OTHER_KINDS + ((1, 1), (1, 2)), fraction, [1, 2], 1)
        for above in (0, 1, -3, LONG):
            error = self.refused(BadParameter, fraction, above, 0)
            self.assertEqual((error.value, type(error.value)), (0, int))

    def test_the_first_wrong_one_is_refused(self):
        self.refused_value(BadParameter, None, fraction, None, 0)
        self.refused_value(BadParameter, True, fraction, True, "2")


class ReckoningTest(RefusalCase):
    def test_all_pairs_are_as_pythons_own(self):
        for one in SOME:
            for other in SOME:
                left, right = Fraction(*one), Fraction(*other)
                self.assertEqual(plus(one, other), pair(left + right))
                self.assertEqual(minus(one, other), pair(left - right))
                self.assertEqual(times(one, other), pair(left * right))
                self.assertIs(less(one, other), left < right)
                if other != (0, 1):
                    self.assertEqual(over(one, other), pair(left / right))

    def test_by_hand(self):
        self.assertEqual(plus((1, 2), (1, 6)), (2, 3))
        self.assertEqual(plus((1, 2), (-1, 2)), (0, 1))
        self.assertEqual(minus((1, 6), (1, 2)), (-1, 3))
        self.assertEqual(times((2, 3), (-3, 4)), (-1, 2))
        self.assertEqual(times((0, 1), (-3, 4)), (0, 1))
        self.assertEqual(over((1, 2), (-3, 4)), (-2, 3))
        self.assertEqual(over((0, 1), (-3, 4)), (0, 1))
        self.assertIs(less((-1, 2), (-1, 3)), True)
        self.assertIs(less((-1, 3), (-1, 2)), False)
        self.assertIs(less((1, 2), (1, 2)), False)

    def test_very_close_ones_are_told_apart(self):
        self.assertIs(less((LONG - 1, LONG), (LONG, LONG + 1)), True)
        self.assertIs(less((LONG, LONG + 1), (LONG - 1, LONG)), False)

    def test_over_by_nought(self):
        nought = (0, 1)
        for one in SOME:
            self.refused_value(BadParameter, nought, over, one, nought)

    def test_nought_is_refused_after_what_is_no_fraction(self):
        self.refused_value(BadParameter, None, over, None, (0, 1))

    def test_what_is_no_fraction_is_refused(self):
        for call in (plus, minus, times, over, less):
            for number in (0, 1):
                self.each_refused(BadParameter, NO_FRACTIONS, call, [(1, 2), (1, 3)], number)

    def test_the_first_wrong_one_is_refused(self):
        one, other = (2, 4), (1, 0)
        for call in (plus, minus, times, over, less):
            self.refused_value(BadParameter, one, call, one, other)
            self.refused_value(BadParameter, other, call, other, one)

    def test_equal_calls_return_equal_values(self):
        for call in (plus, minus, times, over, less):
            self.assertEqual(call((LONG, 7), (-3, 4)), call((LONG, 7), (-3, 4)))


if __name__ == "__main__":
    unittest.main()
