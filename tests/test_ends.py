"""Promises 4, 13, 14 and 15: how far shapes go, what is nearest, idle lines, the same points, wider shapes."""

import unittest
from fractions import Fraction
from itertools import combinations, permutations, product
from random import Random

from tests.common import (
    CORNER, FAN, HALF_PLANE, HALF_STRIP, LITTLE_LINES, MADE_SHAPES, MULTIPLES, NAMED_SHAPES, NO_FRACTIONS, NO_POINTS,
    NO_SHAPES, OCTAGON, OTHER_KINDS, PARALLEL, POINT_OF_THREE, RAY, SEGMENT, SHAPES, SINGLE_POINT, SKEW_LINE, SQUARE,
    STRIP, TOLD_TWICE, TRIANGLE, UNEVEN, WHOLE_LINE, RefusalCase, has_point, let_by, own, own_corners, pair,
)
from withinshapes.ends import greatest_along, idle_lines, nearest, same_points, squared_from, widened
from withinshapes.errors import BadParameter, BadPoint, BadShape

ORIGIN = ((0, 1), (0, 1))
DIRECTIONS = tuple(product(range(-2, 3), repeat=2)) + ((5, 3), (-3, 7), (1000, -999), (-1000, 1), (0, 1000))
# Farther than any corner lies, and nearer than any two unlike ends of shapes are to one another.
FAR_AWAY = 10 ** 40
A_LITTLE = Fraction(1, 10 ** 40)
NO_NUMBERS = OTHER_KINDS + (1001, -1001, 10 ** 40, -10 ** 40, (1, 1), (0, 1))

# Some points, as pairs of integers over six.
SIXTHS = (-30, -7, -3, 0, 2, 3, 6, 12, 41)
POINTS = tuple((pair(Fraction(x, 6)), pair(Fraction(y, 6))) for x, y in product(SIXTHS, repeat=2))
CLOSE_BY = ((10 ** 40 + 1, 10 ** 40), (1, 3))

# Shapes of three little lines, each with what has just the same points told by other lines.
TRIPLES = tuple(row for row in combinations(LITTLE_LINES, 3) if has_point(row))[::11]


def goes_beyond(walls, wall):
    """Whether some point that the walls let is beyond one more wall."""
    a, b, c = wall
    return has_point(list(walls) + [(-a, -b, -c - A_LITTLE)])


def same(walls, others):
    """Whether walls let the same points."""
    return not any([goes_beyond(walls, wall) for wall in others] + [goes_beyond(others, wall) for wall in walls])


def own_squared(one, other):
    """The squared distance in Python's own fractions."""
    return (one[0] - other[0]) ** 2 + (one[1] - other[1]) ** 2


def feet(shape, x, y):
    """The feet of a point on all lines."""
    found = []
    for a, b, c in shape:
        share = Fraction(c - a * x - b * y) / (a * a + b * b)
        found.append((x + a * share, y + b * share))
    return found


def own_nearest(shape, point):
    """The nearest one among the point itself, all feet and all corners that the shape lets."""
    x, y = own(point)
    candidates = [(x, y)] + feet(shape, x, y) + list(own_corners(shape))
    return min([one for one in candidates if let_by(shape, *one)], key=lambda one: own_squared(one, (x, y)))


def own_idle(shape):
    """The lines left out one by one, from the first one on."""
    left = dict(enumerate(shape))
    for number, line in enumerate(shape):
        rest = [other for place, other in left.items() if place != number]
        if rest and same(rest, list(left.values())):
            del left[number]
    return tuple(number for number in range(len(shape)) if number not in left)


class GreatestAlongTest(RefusalCase):
    def test_the_example(self):
        self.assertEqual(greatest_along(CORNER, 1, 1), (1, 1))
        self.assertIsNone(greatest_along(CORNER, 1, -1))

    def test_just_as_far_as_there_is_a_point(self):
        for shape in SHAPES:
            for a, b in DIRECTIONS:
                end = greatest_along(shape, a, b)
                if end is None:
                    self.assertTrue(has_point(shape + ((-a, -b, -FAR_AWAY),)))
                else:
                    c = Fraction(*end)
                    self.assertEqual(end, pair(c))
                    self.assertTrue(has_point(shape + ((-a, -b, -c),)))
                    self.assertFalse(has_point(shape + ((-a, -b, -c - A_LITTLE),)))

    def test_beside_all_corners(self):
        for shape in SHAPES:
            found = own_corners(shape)
            for a, b in DIRECTIONS:
                end = greatest_along(shape, a, b)
                if end is not None and found:
                    self.assertEqual(end, pair(max(a * x + b * y for x, y in found)))

    def test_without_corners_along_an_edge(self):
        self.assertEqual(greatest_along(HALF_PLANE, 2, 3), (5, 1))
        self.assertEqual(greatest_along(HALF_PLANE, 4, 6), (10, 1))
        self.assertIsNone(greatest_along(HALF_PLANE, -2, -3))
        self.assertIsNone(greatest_along(HALF_PLANE, 2, 4))
        self.assertEqual(greatest_along(((4, 6, 5),), 2, 3), (5, 2))
        self.assertEqual(greatest_along(STRIP, 1, 2), (3, 1))
        self.assertEqual(greatest_along(STRIP, -3, -6), (3, 1))
        self.assertIsNone(greatest_along(STRIP, 2, -1))
        self.assertEqual(greatest_along(WHOLE_LINE, 3, -1), (2, 1))
        self.assertEqual(greatest_along(WHOLE_LINE, -6, 2), (-4, 1))
        self.assertIsNone(greatest_along(WHOLE_LINE, 1, 3))
        self.assertEqual(greatest_along(SKEW_LINE, 1, 2), (3, 1))
        self.assertEqual(greatest_along(SKEW_LINE, -2, -4), (-6, 1))
        # The least of lines that point the same way.
        self.assertEqual(greatest_along(PARALLEL, 1, 1), (3, 1))
        self.assertEqual(greatest_along(PARALLEL, 10, 10), (30, 1))
        self.assertIsNone(greatest_along(PARALLEL, -1, -1))
        self.assertIsNone(greatest_along(PARALLEL, 1, 0))

    def test_by_hand(self):
        self.assertEqual(greatest_along(HALF_STRIP, 1, 0), (2, 1))
        self.assertEqual(greatest_along(HALF_STRIP, -1, 0), (1, 1))
        self.assertEqual(greatest_along(HALF_STRIP, 5, 3), (10, 1))
        self.assertIsNone(greatest_along(HALF_STRIP, 0, -1))
        self.assertIsNone(greatest_along(HALF_STRIP, 1000, -1))
        self.assertEqual(greatest_along(RAY, 1, 0), (2, 1))
        self.assertIsNone(greatest_along(RAY, 0, 1))
        self.assertEqual(greatest_along(RAY, 1, 1), (1, 1))
        self.assertEqual(greatest_along(TRIANGLE, 1, 1), (3, 1))
        self.assertEqual(greatest_along(TRIANGLE, -1, -1), (0, 1))
        self.assertEqual(greatest_along(TRIANGLE, -1, 1), (2, 1))
        self.assertEqual(greatest_along(SINGLE_POINT, 6, 6), (8, 1))
        self.assertEqual(greatest_along(SINGLE_POINT, -1, -1), (-4, 3))
        self.assertEqual(greatest_along(SEGMENT, 1, 2), (2, 1))
        self.assertEqual(greatest_along(OCTAGON, 3, 2), (19, 1))
        self.assertEqual(greatest_along(FAN, 1, 0), (0, 1))
        self.assertIsNone(greatest_along(FAN, -1, 0))

    def test_the_direction_nought(self):
        for shape in SHAPES:
            self.assertEqual(greatest_along(shape, 0, 0), (0, 1))

    def test_the_bounds_of_numbers(self):
        self.assertEqual(greatest_along(SQUARE, 1000, -1000), (2000, 1))
        self.assertEqual(greatest_along(SQUARE, -1000, 1000), (2000, 1))
        for number in (1001, -1001):
            self.refused_value(BadParameter, number, greatest_along, SQUARE, number, 1)
            self.refused_value(BadParameter, number, greatest_along, SQUARE, 1, number)

    def test_wrong_numbers(self):
        self.each_refused(BadParameter, NO_NUMBERS, greatest_along, [CORNER, 1, 1], 1)
        self.each_refused(BadParameter, NO_NUMBERS, greatest_along, [CORNER, 1, 1], 2)

    def test_the_first_wrong_one_is_refused(self):
        for place, value in NO_SHAPES:
            self.refused_place(place, BadShape, greatest_along, value, 1, 1)
            self.refused_place(place, BadShape, greatest_along, value, None, None)
        self.refused_value(BadParameter, True, greatest_along, CORNER, True, None)
        self.refused_value(BadParameter, 1001, greatest_along, CORNER, 1001, -1001)


class NearestTest(RefusalCase):
    def test_the_example(self):
        self.assertEqual(nearest(CORNER, ((1, 1), (0, 1))), ((1, 2), (0, 1)))
        self.assertEqual(squared_from(CORNER, ((1, 1), (0, 1))), (1, 4))
        self.assertEqual(nearest(CORNER, ((1, 1), (1, 1))), ((1, 2), (1, 2)))
        self.assertEqual(squared_from(CORNER, ((1, 1), (1, 1))), (1, 2))

    def test_beside_the_point_itself_all_feet_and_all_corners(self):
        for shape in NAMED_SHAPES + MADE_SHAPES[::2] + TRIPLES:
            for point in POINTS[::3]:
                x, y = own_nearest(shape, point)
                self.assertEqual(nearest(shape, point), (pair(x), pair(y)))
                self.assertEqual(squared_from(shape, point), pair(own_squared((x, y), own(point))))

    def test_a_point_of_the_shape_is_its_own(self):
        for shape in SHAPES:
            for point in POINTS:
                if let_by(shape, *own(point)):
                    self.assertEqual(nearest(shape, point), point)
                    self.assertEqual(squared_from(shape, point), (0, 1))

    def test_corners_and_borders_are_their_own(self):
        for shape in SHAPES:
            for x, y in own_corners(shape) | set(feet(shape, Fraction(1, 3), Fraction(-2))):
                if let_by(shape, x, y):
                    self.assertEqual(nearest(shape, (pair(x), pair(y))), (pair(x), pair(y)))
                    self.assertEqual(squared_from(shape, (pair(x), pair(y))), (0, 1))

    def test_by_hand(self):
        self.assertEqual(nearest(HALF_PLANE, ((3, 1), (4, 1))), ((1, 1), (1, 1)))
        self.assertEqual(squared_from(HALF_PLANE, ((3, 1), (4, 1))), (13, 1))
        self.assertEqual(nearest(STRIP, ((2, 1), (3, 1))), ((1, 1), (1, 1)))
        self.assertEqual(nearest(STRIP, ((-2, 1), (-2, 1))), ((-1, 1), (0, 1)))
        self.assertEqual(nearest(WHOLE_LINE, ((4, 1), (0, 1))), ((1, 1), (1, 1)))
        self.assertEqual(nearest(SINGLE_POINT, ((9, 7), (-8, 3))), ((1, 1), (1, 3)))
        self.assertEqual(squared_from(SINGLE_POINT, ((0, 1), (0, 1))), (10, 9))
        self.assertEqual(nearest(TRIANGLE, ((-2, 1), (-3, 1))), ORIGIN)
        self.assertEqual(nearest(TRIANGLE, ((-2, 1), (1, 1))), ((0, 1), (1, 1)))
        self.assertEqual(nearest(TRIANGLE, ((5, 1), (-1, 1))), ((3, 1), (0, 1)))
        self.assertEqual(nearest(SEGMENT, ((2, 1), (2, 1))), ((6, 5), (2, 5)))
        self.assertEqual(nearest(SEGMENT, ((3, 1), (0, 1))), ((2, 1), (0, 1)))
        self.assertEqual(nearest(RAY, ((5, 1), (5, 1))), ((1, 2), (1, 2)))
        self.assertEqual(nearest(RAY, ((5, 1), (-9, 1))), ((2, 1), (-1, 1)))
        self.assertEqual(nearest(FAN, ((3, 1), (2, 1))), ORIGIN)
        self.assertEqual(nearest(POINT_OF_THREE, ((3, 1), (2, 1))), ORIGIN)

    def test_very_close_to_the_border(self):
        box = ((1, 0, 1), (0, 1, 1))
        self.assertEqual(nearest(box, CLOSE_BY), ((1, 1), (1, 3)))
        self.assertEqual(squared_from(box, CLOSE_BY), (1, 10 ** 80))

    def test_all_points_of_the_shape_lie_beyond_the_line_across(self):
        for shape in SHAPES:
            inside = [one for one in map(own, POINTS) if let_by(shape, *one)] + list(own_corners(shape))
            for point in POINTS[::5]:
                (zx, zy), (px, py) = own(point), own(nearest(shape, point))
                self.assertTrue(let_by(shape, px, py))
                for qx, qy in inside:
                    self.assertLessEqual((zx - px) * (qx - px) + (zy - py) * (qy - py), 0)
                if (zx, zy) != (px, py):
                    a, b = zx - px, zy - py
                    self.assertFalse(goes_beyond(shape, (a, b, a * px + b * py)))

    def test_nearest_points_are_no_farther_apart(self):
        for shape in NAMED_SHAPES:
            found = [(own(point), own(nearest(shape, point))) for point in POINTS[::4]]
            for (z, p), (other, q) in combinations(found, 2):
                self.assertLessEqual(own_squared(p, q), own_squared(z, other))

    def test_wrong_points(self):
        for call in (nearest, squared_from):
            self.each_refused(BadPoint, NO_POINTS, call, [CORNER, ORIGIN], 1)

    def test_a_wrong_shape_ahead_of_a_wrong_point(self):
        for call, (place, value) in product((nearest, squared_from), NO_SHAPES):
            self.refused_place(place, BadShape, call, value, ORIGIN)
            self.refused_place(place, BadShape, call, value, None)


class IdleLinesTest(RefusalCase):
    def test_left_out_one_by_one_from_the_first_one_on(self):
        for shape in SHAPES + TRIPLES:
            self.assertEqual(idle_lines(shape), own_idle(shape))

    def test_in_every_order(self):
        for shape in (MULTIPLES, TOLD_TWICE, PARALLEL, FAN[:4], SINGLE_POINT, SEGMENT):
            for row in permutations(shape):
                self.assertEqual(idle_lines(row), own_idle(row))

    def test_without_its_idle_lines_a_shape_is_the_same(self):
        for shape in SHAPES:
            idle = idle_lines(shape)
            left = tuple(line for number, line in enumerate(shape) if number not in idle)
            self.assertTrue(same(left, shape))
            self.assertIs(same_points(left, shape), True)
            self.assertEqual(idle_lines(left), ())
            for number in range(len(left)):
                fewer = left[:number] + left[number + 1:]
                self.assertFalse(fewer and same(fewer, left))

    def test_by_hand(self):
        self.assertEqual(idle_lines(HALF_PLANE), ())
        self.assertEqual(idle_lines(CORNER), ())
        self.assertEqual(idle_lines(STRIP), ())
        self.assertEqual(idle_lines(SQUARE), ())
        self.assertEqual(idle_lines(SINGLE_POINT), ())
        self.assertEqual(idle_lines(UNEVEN), ())
        # Of lines told twice the last ones stay.
        self.assertEqual(idle_lines(TOLD_TWICE), (0, 1))
        self.assertEqual(idle_lines(((1, 2, 3),) * 8), (0, 1, 2, 3, 4, 5, 6))
        self.assertEqual(idle_lines(MULTIPLES), (0, 1))
        self.assertEqual(idle_lines(PARALLEL), (0, 2, 3))
        self.assertEqual(idle_lines(((1, 0, 0), (1, 1, 0), (0, 1, 0))), (1,))
        self.assertEqual(idle_lines(FAN), (1, 2, 4, 5))
        self.assertEqual(idle_lines(POINT_OF_THREE), ())
        self.assertEqual(idle_lines(((1, 0, 0), (1, 0, 1), (1, 0, -1))), (0, 1))
        # A line that lets all but a little is idle no more.
        self.assertEqual(idle_lines(((1, 0, 0), (0, 1, 0), (1000, 1000, 0))), (2,))
        self.assertEqual(idle_lines(((1, 0, 0), (0, 1, 0), (1000, 1000, -1))), ())

    def test_which_ones_stay_hangs_on_their_order(self):
        around = ((1, 0, 0), (0, 1, 0), (-1, -1, 0), (-1, 0, 0), (0, -1, 0))
        self.assertEqual(idle_lines(around), own_idle(around))
        self.assertEqual(idle_lines(around[::-1]), own_idle(around[::-1]))

    def test_wrong_shapes(self):
        for place, value in NO_SHAPES:
            self.refused_place(place, BadShape, idle_lines, value)


class SamePointsTest(RefusalCase):
    def test_every_two_shapes(self):
        some = NAMED_SHAPES + MADE_SHAPES[::9]
        for one, other in product(some, repeat=2):
            self.assertIs(same_points(one, other), same(one, other))

    def test_little_shapes(self):
        for one, other in product(TRIPLES[::3], repeat=2):
            self.assertIs(same_points(one, other), same(one, other))

    def test_one_line_more_or_less(self):
        for shape in SHAPES:
            for number in range(len(shape)):
                fewer = shape[:number] + shape[number + 1:]
                if fewer:
                    self.assertIs(same_points(shape, fewer), same(shape, fewer))
                    self.assertIs(same_points(fewer, shape), same(shape, fewer))

    def test_by_hand(self):
        self.assertIs(same_points(CORNER, CORNER[::-1]), True)
        self.assertIs(same_points(CORNER, CORNER * 4), True)
        self.assertIs(same_points(CORNER, ((4, 0, 2), (0, 6, 3), (1, 1, 1))), True)
        self.assertIs(same_points(CORNER, ((4, 0, 2), (0, 6, 3), (1000, 1000, 999))), False)
        self.assertIs(same_points(CORNER, CORNER[:1]), False)
        self.assertIs(same_points(CORNER[:1], CORNER), False)
        self.assertIs(same_points(HALF_PLANE, ((4, 6, 10),)), True)
        self.assertIs(same_points(HALF_PLANE, ((-2, -3, -5),)), False)
        self.assertIs(same_points(HALF_PLANE, ((2, 3, 4),)), False)
        self.assertIs(same_points(HALF_PLANE, ((2, 3, 6),)), False)
        self.assertIs(same_points(STRIP, STRIP[::-1]), True)
        self.assertIs(same_points(WHOLE_LINE, ((6, -2, 4), (-3, 1, -2))), True)
        self.assertIs(same_points(POINT_OF_THREE, ((1, 1, 0), (-1, -1, 0), (1, -1, 0), (-1, 1, 0))), True)
        self.assertIs(same_points(POINT_OF_THREE, FAN), False)

    def test_a_wrong_shape_ahead_of_a_wrong_other_one(self):
        for place, value in NO_SHAPES:
            self.refused_place(place, BadShape, same_points, value, CORNER)
            self.refused_place(place, BadShape, same_points, CORNER, value)
            self.refused_place(place, BadShape, same_points, value, None)
        # A shape without a common point is refused ahead of wrong lines of the other one.
        self.refused_place((), BadShape, same_points, ((1, 0, 0), (-1, 0, -1)), ((0, 0, 0),))
        self.refused_place((0,), BadShape, same_points, ((0, 0, 0),), ((1, 0, 0), (-1, 0, -1)))


class WidenedTest(RefusalCase):
    def test_by_hand(self):
        self.assertEqual(widened(CORNER, (1, 3)), ((6, 0, 4), (0, 6, 4)))
        self.assertEqual(widened(CORNER, (2, 1)), ((2, 0, 3), (0, 2, 3)))
        self.assertEqual(widened(HALF_PLANE, (7, 2)), ((4, 6, 17),))
        self.assertEqual(widened(STRIP, (1, 2)), ((2, 4, 7), (-2, -4, 3)))
        self.assertEqual(widened(TOLD_TWICE, (1, 1)), ((1, 0, 2), (0, 1, 2), (1, 0, 2), (0, 1, 2)))

    def test_line_by_line(self):
        for shape in SHAPES:
            for above, below in ((0, 1), (1, 1), (5, 3), (1, 1000), (10 ** 40, 7), (3, 10 ** 40)):
                walls = tuple((a * below, b * below, c * below + above) for a, b, c in shape)
                self.assertEqual(widened(shape, (above, below)), walls)

    def test_more_of_nought(self):
        for shape in SHAPES:
            self.assertEqual(widened(shape, (0, 1)), shape)

    def test_beyond_the_bounds_of_lines(self):
        self.assertEqual(widened(((1000, -1000, 1000),), (1, 3)), ((3000, -3000, 3001),))

    def test_the_walls_let_just_so_much_more(self):
        drawn = Random(2)
        for shape in SHAPES:
            more = Fraction(drawn.randint(0, 9), drawn.randint(1, 9))
            walls = widened(shape, pair(more))
            for point in POINTS[::7]:
                x, y = own(point)
                self.assertIs(let_by(walls, x, y), all(a * x + b * y <= c + more for a, b, c in shape))

    def test_wrong_more(self):
        wrong = NO_FRACTIONS + ((-1, 1), (-1, 1000), (-10 ** 40, 1))
        self.each_refused(BadParameter, wrong, widened, [CORNER, (1, 1)], 1)

    def test_a_wrong_shape_ahead_of_wrong_more(self):
        for place, value in NO_SHAPES:
            self.refused_place(place, BadShape, widened, value, (1, 1))
            self.refused_place(place, BadShape, widened, value, None)


if __name__ == "__main__":
    unittest.main()
