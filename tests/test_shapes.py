"""Promises 4, 6, 11, 12 and 13: lines, shapes, papers that no point is common, corners."""

import unittest
from fractions import Fraction
from itertools import combinations, combinations_with_replacement, product

from tests.common import (
    APART, AROUND, CORNER, FAN, FAR, HALF_PLANE, HALF_STRIP, LITTLE_LINES, MULTIPLES, NAMED_SHAPES, NO_POINTS,
    NO_SHAPES, OCTAGON, OTHER_KINDS, PARALLEL, POINT_OF_THREE, RAY, RIGHT_LINE, SEGMENT, SHAPES, SINGLE_POINT,
    SKEW_LINE, SQUARE, STRIP, TOLD_TWICE, TRIANGLE, WHOLE_LINE, WRONG_LINES, RefusalCase, Strange, crossings,
    has_point, let_by, made_lines, own, own_corners, pair,
)
from withinshapes.errors import BadPoint, BadShape, NoRow
from withinshapes.shapes import corners, is_bounded, is_no_point, lets, need_shape, no_point, tight

ORIGIN = ((0, 1), (0, 1))

# Some points, as pairs of integers over six.
SIXTHS = (-12, -6, -3, -2, 0, 2, 3, 4, 6, 9, 18)
POINTS = tuple((pair(Fraction(x, 6)), pair(Fraction(y, 6))) for x, y in product(SIXTHS, repeat=2))

NO_COMMON = tuple(
    [APART, AROUND, ((2, 0, -3), (-3, 0, 4)), ((1, 2, -5), (-2, -4, 9)), ((0, 1, -1), (0, -1000, 999))]
    + [row for row in made_lines(200, 11) if not has_point(row)]
)


def own_paper(lines, value):
    """Whether a tuple of pairs of integers is a PAPER, by the words of promise 12."""
    numbers = [number for number, _ in value]
    if len(value) not in (2, 3) or any(one >= other for one, other in zip(numbers, numbers[1:])):
        return False
    if any(number not in range(len(lines)) or weight < 1 for number, weight in value):
        return False
    sums = [sum(lines[number][place] * weight for number, weight in value) for place in range(3)]
    return sums[0] == 0 and sums[1] == 0 and sums[2] < 0


def points_about(shape):
    """Points of all kinds: on borders, at corners and crossings, within and beyond."""
    near = [(pair(x), pair(y)) for x, y in crossings(shape)]
    feet = []
    for a, b, c in shape:
        length = a * a + b * b
        foot = (Fraction(a * c, length), Fraction(b * c, length))
        feet += [(pair(foot[0] - b * step), pair(foot[1] + a * step)) for step in (-2, 0, Fraction(1, 3))]
    return near + feet + list(POINTS[::7])


class NeedShapeTest(RefusalCase):
    def test_shapes_are_returned(self):
        for shape in SHAPES:
            self.assertIs(need_shape(shape), shape)

    def test_taken_exactly_if_the_lines_let_a_common_point(self):
        taken = 0
        rows = list(combinations_with_replacement(LITTLE_LINES, 3)) + list(product(LITTLE_LINES, repeat=2))
        rows += [(line,) for line in LITTLE_LINES] + made_lines(400, 3)
        for lines in rows:
            if has_point(lines):
                taken += 1
                self.assertIs(need_shape(lines), lines)
            else:
                self.refused_place((), BadShape, need_shape, lines)
        self.assertGreater(taken, 1000)
        self.assertGreater(len(rows) - taken, 300)

    def test_a_single_point_just_and_just_not(self):
        self.assertIs(need_shape(SINGLE_POINT), SINGLE_POINT)
        self.refused_place((), BadShape, need_shape, ((1, 0, 1), (-1, 0, -1), (0, 3, 1), (0, -3, -2)))
        self.assertIs(need_shape(POINT_OF_THREE), POINT_OF_THREE)
        self.refused_place((), BadShape, need_shape, ((1, 0, 0), (0, 1, 0), (-1, -1, -1)))
        self.refused_place((), BadShape, need_shape, ((1000, 999, -1000), (-1000, -999, 999)))
        need_shape(((1000, 999, -1000), (-1000, -999, 1000)))

    def test_parallel_lines(self):
        for c in range(-4, 5):
            lines = ((2, 4, c), (-3, -6, 3))
            # A third of the second line is that X + 2 Y is at least -1.
            if c >= -2:
                self.assertIs(need_shape(lines), lines)
            else:
                self.refused_place((), BadShape, need_shape, lines)

    def test_eight_lines_and_nine(self):
        for shape in (OCTAGON, (RIGHT_LINE,) * 8):
            self.assertIs(need_shape(shape), shape)
            self.refused_place((), BadShape, need_shape, shape + (shape[0],))
        # The eighth line is looked at, too.
        self.refused_place((), BadShape, need_shape, ((1, 0, 0),) * 7 + ((-1, 0, -1),))

    def test_the_bounds_of_numbers(self):
        for place, sign in product(range(3), (1, -1)):
            line = [1, 1, 1]
            line[place] = 1000 * sign
            self.assertEqual(need_shape((tuple(line),)), (tuple(line),))
            line[place] = 1001 * sign
            self.refused_place((0,), BadShape, need_shape, (tuple(line),))

    def test_a_and_b_not_both_nought(self):
        for line in ((0, 1, 0), (1, 0, 0), (0, -1, 5), (-1, 0, 5)):
            self.assertEqual(need_shape((line,)), (line,))
        for c in (-1000, -1, 0, 1, 1000):
            self.refused_place((0,), BadShape, need_shape, ((0, 0, c),))

    def test_wrong_shapes(self):
        for place, value in NO_SHAPES:
            self.refused_place(place, BadShape, need_shape, value)

    def test_the_first_wrong_line_is_told(self):
        for marks in product((False, True), repeat=4):
            lines = tuple((0, 0, 1) if mark else RIGHT_LINE for mark in marks)
            if any(marks):
                self.refused_place((marks.index(True),), BadShape, need_shape, lines)
            else:
                self.assertIs(need_shape(lines), lines)


class LetsTest(RefusalCase):
    def test_whether_all_lines_let_the_point(self):
        for shape in SHAPES:
            for point in points_about(shape):
                self.assertIs(lets(shape, point), let_by(shape, *own(point)))

    def test_on_either_side_of_the_border(self):
        self.assertIs(lets(HALF_PLANE, ((1, 1), (1, 1))), True)
        self.assertIs(lets(HALF_PLANE, ((1, 1), (10 ** 40 + 1, 10 ** 40))), False)
        self.assertIs(lets(HALF_PLANE, ((1, 1), (10 ** 40 - 1, 10 ** 40))), True)
        self.assertIs(lets(CORNER, ((1, 2), (1, 2))), True)
        self.assertIs(lets(CORNER, ((2, 3), (-5, 1))), False)
        self.assertIs(lets(CORNER, ((-5, 1), (2, 3))), False)
        self.assertIs(lets(SINGLE_POINT, ((1, 1), (1, 3))), True)
        self.assertIs(lets(SINGLE_POINT, ((1, 1), (2, 3))), False)
        self.assertIs(lets(SKEW_LINE, ((1, 1), (1, 1))), True)
        self.assertIs(lets(SKEW_LINE, ((1, 1), (1, 2))), False)

    def test_wrong_points(self):
        self.each_refused(BadPoint, NO_POINTS, lets, [CORNER, ORIGIN], 1)

    def test_a_wrong_shape_ahead_of_a_wrong_point(self):
        for place, value in NO_SHAPES:
            self.refused_place(place, BadShape, lets, value, ORIGIN)
            self.refused_place(place, BadShape, lets, value, None)


class TightTest(RefusalCase):
    def test_the_lines_that_are_tight(self):
        for shape in SHAPES:
            for point in points_about(shape):
                x, y = own(point)
                found = tuple(number for number, (a, b, c) in enumerate(shape) if a * x + b * y == c)
                self.assertEqual(tight(shape, point), found if let_by(shape, x, y) else ())

    def test_by_hand(self):
        self.assertEqual(tight(CORNER, ((1, 2), (1, 2))), (0, 1))
        self.assertEqual(tight(CORNER, ((1, 2), (0, 1))), (0,))
        self.assertEqual(tight(CORNER, ((0, 1), (1, 2))), (1,))
        self.assertEqual(tight(CORNER, ORIGIN), ())
        # The first line is tight there, yet the point is none of the shape.
        self.assertEqual(tight(CORNER, ((1, 2), (1, 1))), ())
        self.assertEqual(tight(FAN, ORIGIN), (0, 1, 2, 3, 4, 5))
        self.assertEqual(tight(TOLD_TWICE, ((1, 1), (0, 1))), (0, 2))
        self.assertEqual(tight(PARALLEL, ((3, 1), (0, 1))), (1,))
        self.assertEqual(tight(WHOLE_LINE, ((1, 1), (1, 1))), (0, 1))

    def test_wrong_points(self):
        self.each_refused(BadPoint, NO_POINTS, tight, [CORNER, ORIGIN], 1)

    def test_a_wrong_shape_ahead_of_a_wrong_point(self):
        for place, value in NO_SHAPES:
            self.refused_place(place, BadShape, tight, value, ORIGIN)
            self.refused_place(place, BadShape, tight, value, None)


class NoPointTest(RefusalCase):
    def test_the_example(self):
        self.assertEqual(no_point(APART), ((0, 1), (1, 1)))

    def test_a_paper_exactly_if_no_point_is_common(self):
        rows = list(combinations_with_replacement(LITTLE_LINES, 3)) + made_lines(400, 17)
        papers = set()
        for lines in rows:
            if has_point(lines):
                self.refused(NoRow, no_point, lines)
            else:
                paper = no_point(lines)
                papers.add(len(paper))
                self.assertTrue(own_paper(lines, paper), (lines, paper))
                self.assertIs(is_no_point(lines, paper), True)
        self.assertEqual(papers, {2, 3})

    def test_a_paper_of_three(self):
        paper = no_point(AROUND)
        self.assertEqual([number for number, _ in paper], [0, 1, 2])
        self.assertTrue(own_paper(AROUND, paper))
        # Told the other way round.
        self.assertTrue(own_paper(AROUND[::-1], no_point(AROUND[::-1])))

    def test_multiples_of_one_another(self):
        for lines in (((2, 0, -3), (-3, 0, 4)), ((1, 2, -5), (-2, -4, 9)), ((0, 1000, -1), (0, -1, 0))):
            self.assertTrue(own_paper(lines, no_point(lines)))

    def test_among_eight_lines(self):
        for first, second in combinations(range(8), 2):
            lines = [(0, 1, 5)] * 8
            lines[first], lines[second] = APART
            paper = no_point(tuple(lines))
            self.assertEqual(paper, ((first, 1), (second, 1)))

    def test_no_row_if_there_is_a_common_point(self):
        for shape in SHAPES:
            self.refused(NoRow, no_point, shape)

    def test_wrong_lines(self):
        for place, value in WRONG_LINES:
            self.refused_place(place, BadShape, no_point, value)

    def test_nine_lines(self):
        self.refused_place((), BadShape, no_point, APART * 4 + APART[:1])
        self.assertEqual(no_point(APART * 4), ((0, 1), (1, 1)))


class IsNoPointTest(RefusalCase):
    def test_all_little_papers(self):
        pairs = list(product((-1, 0, 1, 2, 3), (-1, 0, 1, 2)))
        taken = 0
        for lines in (APART, AROUND, AROUND[::-1], ((2, 0, -3), (-1, 0, 1), (-2, 0, 2)), CORNER, TRIANGLE):
            values = list(product(pairs, repeat=2)) + list(product(pairs, repeat=3)) + [(one,) for one in pairs]
            for value in values:
                good = own_paper(lines, value)
                taken += good
                self.assertIs(is_no_point(lines, value), good, (lines, value))
        self.assertGreater(taken, 5)

    def test_by_hand(self):
        self.assertIs(is_no_point(APART, ((0, 1), (1, 1))), True)
        self.assertIs(is_no_point(APART, ((0, 10 ** 40), (1, 10 ** 40))), True)
        self.assertIs(is_no_point(APART, ((0, 1), (1, 2))), False)
        self.assertIs(is_no_point(APART, ((1, 1), (0, 1))), False)
        self.assertIs(is_no_point(APART, ((0, -1), (1, -1))), False)
        self.assertIs(is_no_point(AROUND, ((0, 1), (1, 1), (2, 1))), True)
        self.assertIs(is_no_point(AROUND, ((0, 1), (2, 1), (1, 1))), False)
        self.assertIs(is_no_point(AROUND, ((0, 1), (1, 1))), False)
        # Both come to nought, but so does C.
        self.assertIs(is_no_point(WHOLE_LINE, ((0, 1), (1, 1))), False)
        self.assertIs(is_no_point(STRIP, ((0, 1), (1, 1))), False)
        # Only A comes to nought, only B does.
        self.assertIs(is_no_point(((1, 1, 0), (-1, 1, -1)), ((0, 1), (1, 1))), False)
        self.assertIs(is_no_point(((1, 1, 0), (1, -1, -1)), ((0, 1), (1, 1))), False)

    def test_no_more_than_three_lines(self):
        lines = APART + APART
        self.assertIs(is_no_point(lines, ((0, 2), (1, 1), (3, 1))), True)
        self.assertIs(is_no_point(lines, ((0, 1), (1, 1), (2, 1), (3, 1))), False)

    def test_a_line_told_twice(self):
        self.assertIs(is_no_point(APART, ((0, 1), (0, 1), (1, 2))), False)
        self.assertIs(is_no_point(APART, ((0, 2), (1, 1), (1, 1))), False)

    def test_values_of_any_kind(self):
        strange = OTHER_KINDS + (
            1, ((0, 1),), ((0, 1), (1, 1), None), [(0, 1), (1, 1)], ([0, 1], (1, 1)), ((0, 1), [1, 1]),
            ((0, 1, 1), (1, 1)), ((0, 1), (1,)), ((False, 1), (True, 1)), ((0, True), (1, True)), ((0, 1), (1, 1.0)),
            ((0, 1.0), (1, 1)), ((0.0, 1), (1, 1)), ((0, 1), (1, "1")), (("0", 1), (1, 1)), ((0, 1), (2, 1)),
            ((-2, 1), (-1, 1)), ((-1, 1), (0, 1)), ((0, 0), (1, 0)), ((0, Strange()), (1, 1)), ((Strange(), 1), (1, 1)),
            (Strange(), Strange()), (None, None), ((0, None), (1, None)), ((None, 1), (None, 1)),
        )
        for value in strange:
            self.assertIs(is_no_point(APART, value), False)
            self.assertIs(is_no_point(CORNER, value), False)

    def test_no_value_is_one_if_there_is_a_common_point(self):
        for shape in NAMED_SHAPES:
            for numbers in list(combinations(range(len(shape)), 2)) + list(combinations(range(len(shape)), 3)):
                for weights in product((1, 2, 3), repeat=len(numbers)):
                    self.assertIs(is_no_point(shape, tuple(zip(numbers, weights))), False)

    def test_papers_of_many_lines(self):
        for lines in NO_COMMON:
            paper = no_point(lines)
            self.assertIs(is_no_point(lines, paper), True)
            for place, (number, weight) in enumerate(paper):
                for other in ((number, weight + 1), (number, -weight), (number + 8, weight), (number - 8, weight)):
                    value = paper[:place] + (other,) + paper[place + 1:]
                    self.assertIs(is_no_point(lines, value), own_paper(lines, value))

    def test_wrong_lines(self):
        for place, value in WRONG_LINES:
            self.refused_place(place, BadShape, is_no_point, value, ((0, 1), (1, 1)))
            self.refused_place(place, BadShape, is_no_point, value, None)


class CornersTest(RefusalCase):
    def test_all_points_at_which_two_lines_are_tight(self):
        for shape in SHAPES:
            found = corners(shape)
            self.assertEqual(set(found), {(pair(x), pair(y)) for x, y in own_corners(shape)})
            # A SET: ascending as Python compares, of unlike things.
            self.assertEqual(found, tuple(sorted(set(found))))

    def test_all_corners_of_little_lines(self):
        for lines in combinations(LITTLE_LINES, 3):
            if has_point(lines):
                self.assertEqual(set(corners(lines)), {(pair(x), pair(y)) for x, y in own_corners(lines)})

    def test_by_hand(self):
        self.assertEqual(corners(CORNER), (((1, 2), (1, 2)),))
        self.assertEqual(corners(HALF_PLANE), ())
        self.assertEqual(corners(STRIP), ())
        self.assertEqual(corners(WHOLE_LINE), ())
        self.assertEqual(corners(SKEW_LINE), ())
        self.assertEqual(corners(PARALLEL), ())
        self.assertEqual(corners(HALF_STRIP), (((-1, 1), (0, 1)), ((2, 1), (0, 1))))
        self.assertEqual(corners(RAY), (((2, 1), (-1, 1)),))
        self.assertEqual(corners(TRIANGLE), (ORIGIN, ((0, 1), (2, 1)), ((3, 1), (0, 1))))
        self.assertEqual(corners(SEGMENT), (((0, 1), (1, 1)), ((2, 1), (0, 1))))
        self.assertEqual(corners(SINGLE_POINT), (((1, 1), (1, 3)),))
        self.assertEqual(corners(FAN), (ORIGIN,))
        self.assertEqual(corners(MULTIPLES), (((0, 1), (2, 1)),))
        self.assertEqual(corners(FAR), (((-1000, 1), (1000, 1)),))
        self.assertEqual(len(corners(OCTAGON)), 8)

    def test_ascending_as_python_compares(self):
        # (1, 2) is ahead of (1, 3) though a half is more than a third.
        box = ((2, 0, 1), (-3, 0, -1), (0, 1, 0), (0, -1, 1))
        self.assertEqual(
            corners(box),
            (((1, 2), (-1, 1)), ((1, 2), (0, 1)), ((1, 3), (-1, 1)), ((1, 3), (0, 1))),
        )

    def test_there_is_one_exactly_if_two_lines_are_no_multiples(self):
        for shape in SHAPES:
            unlike = any(a * e != b * d for (a, b, _), (d, e, _) in combinations(shape, 2))
            self.assertIs(corners(shape) != (), unlike)

    def test_wrong_shapes(self):
        for place, value in NO_SHAPES:
            self.refused_place(place, BadShape, corners, value)


class IsBoundedTest(RefusalCase):
    def test_no_way_leads_out(self):
        for shape in SHAPES + tuple(row for row in combinations(LITTLE_LINES, 4) if has_point(row))[::9]:
            ways = [(a, b, 0) for a, b, _ in shape]
            # A way out is one that goes one step aside, or one step up.
            steps = [((1, 0, 1), (-1, 0, -1)), ((1, 0, -1), (-1, 0, 1))]
            steps += [((0, 1, 1), (0, -1, -1)), ((0, 1, -1), (0, -1, 1))]
            out = any(has_point(ways + list(step)) for step in steps)
            self.assertIs(is_bounded(shape), not out)

    def test_by_hand(self):
        for shape in (TRIANGLE, SQUARE, SEGMENT, SINGLE_POINT, POINT_OF_THREE, OCTAGON):
            self.assertIs(is_bounded(shape), True)
        for shape in (HALF_PLANE, STRIP, WHOLE_LINE, SKEW_LINE, CORNER, HALF_STRIP, RAY, TOLD_TWICE, PARALLEL, FAN):
            self.assertIs(is_bounded(shape), False)

    def test_each_side_is_looked_at(self):
        for left_out in range(4):
            self.assertIs(is_bounded(SQUARE[:left_out] + SQUARE[left_out + 1:]), False)
        for left_out in range(3):
            self.assertIs(is_bounded(TRIANGLE[:left_out] + TRIANGLE[left_out + 1:]), False)

    def test_a_very_narrow_way_out(self):
        self.assertIs(is_bounded(((1000, 999, 0), (-1000, -998, 0))), False)
        self.assertIs(is_bounded(((1000, 999, 0), (-1000, -998, 0), (0, -1, 1000))), True)
        self.assertIs(is_bounded(((1000, 999, 0), (-1000, -998, 0), (0, 1, 1000))), False)

    def test_wrong_shapes(self):
        for place, value in NO_SHAPES:
            self.refused_place(place, BadShape, is_bounded, value)


if __name__ == "__main__":
    unittest.main()
