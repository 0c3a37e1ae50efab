"""Promises 2, 3 and 9: points and their means."""

import unittest
from fractions import Fraction

from tests.common import NO_FRACTIONS, NO_POINTS, OTHER_KINDS, RefusalCase, own, pair
from withinshapes.errors import BadParameter, BadPoint
from withinshapes.points import mean_of, need_point, point_plus, point_times, squared

LONG = 1234567890123456789012345678901234567890

SOME = (
    ((0, 1), (0, 1)), ((1, 1), (0, 1)), ((0, 1), (-1, 1)), ((1, 2), (1, 3)), ((-1, 2), (5, 3)), ((-7, 4), (-9, 5)),
    ((100, 1), (-100, 1)), ((LONG, 1), (1, LONG)), ((-LONG, LONG + 1), (LONG, 7)),
)


class NeedPointTest(RefusalCase):
    def test_points_are_returned(self):
        for point in SOME:
            self.assertIs(need_point(point), point)

    def test_what_is_none_is_refused(self):
        self.each_refused(BadPoint, NO_POINTS, need_point, [None], 0)

    def test_each_thing_is_a_fraction(self):
        for value in NO_FRACTIONS:
            for point in ((value, (1, 2)), ((1, 2), value)):
                self.refused_value(BadPoint, point, need_point, point)


class ReckoningTest(RefusalCase):
    def test_sums_are_thing_by_thing(self):
        for one in SOME:
            for other in SOME:
                (x, y), (u, v) = own(one), own(other)
                self.assertEqual(point_plus(one, other), (pair(x + u), pair(y + v)))

    def test_products_are_thing_by_thing(self):
        for point in SOME:
            for factor in ((0, 1), (1, 1), (-1, 1), (2, 3), (-5, 2), (1, LONG)):
                x, y = own(point)
                by = Fraction(*factor)
                self.assertEqual(point_times(point, factor), (pair(x * by), pair(y * by)))

    def test_squared_distances(self):
        for one in SOME:
            for other in SOME:
                (x, y), (u, v) = own(one), own(other)
                self.assertEqual(squared(one, other), pair((x - u) ** 2 + (y - v) ** 2))

    def test_by_hand(self):
        self.assertEqual(point_plus(((1, 2), (1, 3)), ((1, 2), (-1, 3))), ((1, 1), (0, 1)))
        self.assertEqual(point_times(((1, 2), (-1, 3)), (6, 1)), ((3, 1), (-2, 1)))
        self.assertEqual(squared(((0, 1), (0, 1)), ((3, 1), (4, 1))), (25, 1))
        self.assertEqual(squared(((1, 2), (0, 1)), ((0, 1), (1, 2))), (1, 2))
        self.assertEqual(squared(((1, 2), (1, 3)), ((1, 2), (1, 3))), (0, 1))

    def test_what_is_no_point_is_refused(self):
        for call in (point_plus, squared):
            for number in (0, 1):
                self.each_refused(BadPoint, NO_POINTS, call, [SOME[1], SOME[2]], number)
        self.each_refused(BadPoint, NO_POINTS, point_times, [SOME[1], (1, 2)], 0)

    def test_a_factor_that_is_no_fraction_is_refused(self):
        self.each_refused(BadParameter, NO_FRACTIONS, point_times, [SOME[1], (1, 2)], 1)

    def test_the_first_wrong_one_is_refused(self):
        one, other = ((2, 4), (1, 2)), ((1, 2), (1, 0))
        for call in (point_plus, squared):
            self.refused_value(BadPoint, one, call, one, other)
            self.refused_value(BadPoint, other, call, other, one)
        self.refused_value(BadPoint, one, point_times, one, None)


class MeanOfTest(RefusalCase):
    def test_a_single_point_is_its_own_mean(self):
        for point in SOME:
            self.assertEqual(mean_of((point,)), point)

    def test_the_sum_divided_by_the_number(self):
        for many in range(1, len(SOME) + 1):
            xs, ys = zip(*[own(point) for point in SOME[:many]])
            self.assertEqual(mean_of(SOME[:many]), (pair(sum(xs) / many), pair(sum(ys) / many)))

    def test_by_hand(self):
        self.assertEqual(mean_of((((0, 1), (1, 1)), ((1, 2), (1, 2)))), ((1, 4), (3, 4)))
        self.assertEqual(mean_of((((1, 1), (0, 1)),) * 3), ((1, 1), (0, 1)))

    def test_one_point_more(self):
        mean = SOME[0]
        for many, point in enumerate(SOME):
            mean = point_times(point_plus(point_times(mean, (many, 1)), point), (1, many + 1))
            self.assertEqual(mean, mean_of(SOME[:many + 1]))

    def test_many_points(self):
        points = tuple(((number, 1), (-number, 1)) for number in range(3001))
        self.assertEqual(mean_of(points), ((1500, 1), (-1500, 1)))

    def test_no_tuple_or_an_empty_one_is_refused(self):
        # A tuple with things in it is refused by its first wrong thing instead.
        wrong = [value for value in OTHER_KINDS if type(value) is not tuple or value == ()]
        self.each_refused(BadParameter, wrong + [list(SOME), 1], mean_of, [None], 0)

    def test_the_first_thing_that_is_no_point_is_refused(self):
        right, wrong, other = ((1, 2), (1, 2)), ((2, 4), (1, 2)), (1, 2)
        for points in ((wrong,), (wrong, other), (right, wrong), (right, wrong, right, other)):
            self.refused_value(BadPoint, wrong, mean_of, points)
        self.refused_value(BadPoint, right[0], mean_of, right)

    def test_each_place_is_looked_at(self):
        for value in NO_POINTS:
            self.refused_value(BadPoint, value, mean_of, (value,))
            self.refused_value(BadPoint, value, mean_of, (SOME[0], value, SOME[1]))


if __name__ == "__main__":
    unittest.main()
