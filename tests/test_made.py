"""Promises 38, 39 and 40: pays and shapes mapped, moved, put together, and parts of them."""

import unittest
from fractions import Fraction
from itertools import chain, combinations, product
from math import gcd

from tests.common import (
    APART, CORNER, EXAMPLE_PAYS, FULL_PAYS, HALF_PLANE, NAMED_PAYS, NAMED_SHAPES, NO_PAYS, NO_SHAPES, OCTAGON,
    ONE_ACT_PAYS, ONE_ANSWER_PAYS, OTHER_KINDS, SHAPES, SINGLE_POINT, SQUARE, TALL_PAYS, TOLD_TWICE, UNEVEN_PAYS,
    RefusalCase, Strange, crossings, has_point, let_by, made_pays,
)
from withinshapes.errors import BadParameter, BadPays, BadShape, TooGreat
from withinshapes.leading import is_led
from withinshapes.made import (
    both_shapes, either_acts, either_answers, mapped, mapped_shape, moved, moved_shape, some_acts, some_answers,
    some_lines,
)
from withinshapes.points import need_pays
from withinshapes.shapes import need_shape

ALL_PAYS = NAMED_PAYS + tuple(made_pays(32, 81)) + tuple(made_pays(16, 82, 9))
CASES = [(pays, shape) for at, pays in enumerate(ALL_PAYS) for shape in SHAPES[at % 11::11]]
EXCHANGE = ((0, 1), (1, 0))
SAME = ((1, 0), (0, 1))
MATRICES = (
    SAME, EXCHANGE, ((-1, 0), (0, 1)), ((1, 0), (0, -1)), ((-1, 0), (0, -1)), ((0, -1), (1, 0)), ((1, 1), (0, 1)),
    ((2, 0), (0, 2)), ((2, 0), (0, 3)), ((1, 2), (3, 4)), ((-2, 1), (1, 1)), ((0, 5), (-3, 0)), ((2, -1), (4, 3)),
)
SHIFTS = ((0, 0), (1, 0), (0, -1), (-3, 7), (10, 10))

NO_MATRICES = OTHER_KINDS + (
    1, (1, 0, 0, 1), SAME[:1], SAME + ((0, 0),), list(SAME), ((1, 0), [0, 1]), ((1, 0), (0,)), ((1, 0), (0, 1, 0)),
    ((1, 0), None), (None, (0, 1)), ((True, 0), (0, 1)), ((1, 0), (False, 1)), ((1.0, 0), (0, 1)), (("1", 0), (0, 1)),
    ((11, 0), (0, 1)), ((1, -11), (0, 1)), ((1, 0), (11, 1)), ((1, 0), (0, -11)), ((10 ** 40, 0), (0, 1)),
    # Both points of a row fall together.
    ((0, 0), (0, 0)), ((1, 2), (2, 4)), ((1, 1), (1, 1)), ((0, 0), (1, 2)), ((1, 0), (2, 0)), ((10, -10), (-10, 10)),
    ((3, -2), (-9, 6)), (Strange(), (0, 1)), ((1, 0), Strange()), ((Strange(), 0), (0, 1)), ((1, 0), (0, Strange())),
)
NO_SHIFTS = OTHER_KINDS + (
    1, (1, 2, 3), [1, 2], (101, 0), (0, 101), (-101, 0), (0, -101), (10 ** 40, 0), (True, 0), (0, False), (1.0, 0),
    (0, "1"), (0, None), ((1, 1), (0, 1)), (Strange(), 0), (0, Strange()),
)
# What is no SET of numbers of two things.
NO_LOTS = tuple(value for value in OTHER_KINDS if type(value) is not tuple or value != (1,)) + (
    0, 1, (2,), (-1,), (0, 2), (1, 0), (0, 0), (0, 1, 1), (0, 1, 2), (True,), (False,), (0, True), (0.0,), ("0",),
    (None,), (0, None), ((0,),), [0], {0}, range(2), (10 ** 40,), (Strange(),), (0, Strange()),
)


def map_point(matrix, x, y):
    """The point that a matrix maps a point to."""
    (p, q), (r, s) = matrix
    return (p * x + q * y, r * x + s * y)


def product_of(second, first):
    """The matrix that maps as the first one and then the second one do."""
    return tuple(tuple(sum(second[i][k] * first[k][j] for k in (0, 1)) for j in (0, 1)) for i in (0, 1))


def is_matrix(matrix):
    (p, q), (r, s) = matrix
    return p * s - q * r != 0 and max(abs(number) for row in matrix for number in row) <= 10


def greatest(things):
    """The greatest number, signs left out."""
    return max(abs(number) for thing in things for number in thing)


def all_pairs(pays):
    return [pay for act in pays for pay in act]


def points_for(shape):
    """Points in and around a shape: its crossings, points beside them, and a few of little numbers."""
    little = [(Fraction(x, 2), Fraction(y, 2)) for x, y in product(range(-6, 7, 3), repeat=2)]
    close = [(x + Fraction(dx, 7), y + Fraction(dy, 7)) for x, y in crossings(shape)[::3]
             for dx, dy in ((0, 0), (1, 0), (0, -1), (-1, 1))]
    return little + close


def lots_of(many):
    """All SETs of numbers of so many things, () apart."""
    return list(chain.from_iterable(combinations(range(many), size) for size in range(1, many + 1)))


def own_mapped(shape, matrix):
    """The lines that let the mapped points, without a common divisor; by fractions that map back."""
    (p, q), (r, s) = matrix
    below = Fraction(p * s - q * r)
    found = []
    for a, b, c in shape:
        row = [(a * s - b * r) / below, (b * p - a * q) / below, Fraction(c)]
        whole = [number * abs(below) for number in row]
        divisor = gcd(*[int(number) for number in whole])
        found.append(tuple(int(number) // divisor for number in whole))
    return tuple(found)


class MappedTest(RefusalCase):
    def test_pay_by_pay(self):
        great = 0
        for pays in ALL_PAYS:
            for matrix in MATRICES:
                told = tuple(tuple(map_point(matrix, x, y) for x, y in act) for act in pays)
                if greatest(all_pairs(told)) > 100:
                    great += 1
                    self.assertEqual(self.refused(TooGreat, mapped, pays, matrix).most, 100)
                else:
                    self.assertEqual(mapped(pays, matrix), told)
                    self.assertEqual(need_pays(mapped(pays, matrix)), told)
        self.assertGreater(great, 10)

    def test_the_example(self):
        for pays in ALL_PAYS:
            self.assertEqual(mapped(pays, EXCHANGE), tuple(tuple((y, x) for x, y in act) for act in pays))
        self.assertEqual(mapped_shape(((1, 2, 3), (4, 5, 6)), EXCHANGE), ((2, 1, 3), (5, 4, 6)))

    def test_line_by_line(self):
        great = 0
        for shape in SHAPES:
            for matrix in MATRICES:
                told = own_mapped(shape, matrix)
                if greatest(told) > 1000:
                    great += 1
                    self.assertEqual(self.refused(TooGreat, mapped_shape, shape, matrix).most, 1000)
                else:
                    self.assertEqual(mapped_shape(shape, matrix), told)
                    self.assertEqual(need_shape(told), told)
        self.assertGreater(great, 10)

    def test_points_in_the_shape_exactly_if_their_pictures_are(self):
        many = {True: 0, False: 0}
        for at, shape in enumerate(SHAPES):
            for matrix in MATRICES[at % 3::3]:
                if greatest(own_mapped(shape, matrix)) <= 1000:
                    other = mapped_shape(shape, matrix)
                    for x, y in points_for(shape):
                        right = let_by(shape, x, y)
                        many[right] += 1
                        self.assertIs(let_by(other, *map_point(matrix, x, y)), right)
        self.assertGreater(min(many.values()), 1000)

    def test_without_a_common_divisor(self):
        for shape in SHAPES:
            found = mapped_shape(shape, SAME)
            self.assertTrue(all(gcd(*line) == 1 for line in found))
            self.assertEqual(found, tuple(tuple(number // gcd(*line) for number in line) for line in shape))
        self.assertEqual(mapped_shape(((2, 4, 6), (0, 3, 0), (5, 0, 7)), SAME), ((1, 2, 3), (0, 1, 0), (5, 0, 7)))
        # X at most 1 becomes X at most 2: twice as far, the determinant is 4.
        self.assertEqual(mapped_shape(((1, 0, 1), (0, 1, 3)), ((2, 0), (0, 2))), ((1, 0, 2), (0, 1, 6)))
        self.assertEqual(mapped_shape(((1, 0, 1),), ((-2, 0), (0, 2))), ((-1, 0, 2),))
        self.assertEqual(mapped_shape(((6, 4, 0),), ((1, 2), (3, 4))), ((-3, 2, 0),))
        self.assertEqual(mapped_shape(((1, 1, 0),), ((-1, 0), (0, 1))), ((-1, 1, 0),))
        # Mirrored: the other way round, and the same points.
        self.assertEqual(mapped_shape(SQUARE, ((-1, 0), (0, 1))), ((-1, 0, 1), (1, 0, 1), (0, 1, 1), (0, -1, 1)))

    def test_led_exactly_if_the_mapped_one_is(self):
        found = {True: 0, False: 0}
        for at, (pays, shape) in enumerate(CASES):
            for matrix in MATRICES[at % 4::4]:
                if greatest(own_mapped(shape, matrix)) <= 1000:
                    pairs = [map_point(matrix, *pay) for pay in all_pairs(pays)]
                    if greatest(pairs) <= 100:
                        right = is_led(pays, shape)
                        found[right] += 1
                        self.assertIs(is_led(mapped(pays, matrix), mapped_shape(shape, matrix)), right)
        self.assertGreater(min(found.values()), 100)

    def test_one_matrix_and_then_another_one(self):
        many = 0
        for one, other in product(MATRICES, repeat=2):
            both = product_of(other, one)
            if not is_matrix(both):
                continue
            for pays in ALL_PAYS[::5]:
                pairs = [map_point(one, *pay) for pay in all_pairs(pays)]
                if greatest(pairs) <= 100 and greatest([map_point(other, *pay) for pay in pairs]) <= 100:
                    self.assertEqual(mapped(mapped(pays, one), other), mapped(pays, both))
            for shape in NAMED_SHAPES[:12]:
                between = own_mapped(shape, one)
                if greatest(between) <= 1000 and greatest(own_mapped(between, other)) <= 1000:
                    many += 1
                    self.assertEqual(mapped_shape(mapped_shape(shape, one), other), mapped_shape(shape, both))
        self.assertGreater(many, 500)

    def test_numbers_of_just_a_hundred(self):
        tenfold = ((10, 0), (0, 1))
        self.assertEqual(mapped((((10, 3),),), tenfold), (((100, 3),),))
        self.assertEqual(mapped((((-10, -100),),), tenfold), (((-100, -100),),))
        self.assertEqual(mapped((((9, 10),),), ((10, 1), (0, 10))), (((100, 100),),))
        for pays, matrix in (((((10, 1),),), ((10, 1), (0, 1))), ((((-10, -1),),), ((10, 1), (0, 1))),
                             ((((11, 0),),), tenfold), ((((0, 0), (0, 11)),), ((1, 0), (0, 10))),
                             ((((0, 0),), ((0, -11),)), ((1, 0), (0, 10)))):
            self.assertEqual(self.refused(TooGreat, mapped, pays, matrix).most, 100)

    def test_numbers_of_just_a_thousand(self):
        self.assertEqual(mapped_shape(((1, 0, 1000),), SAME), ((1, 0, 1000),))
        self.assertEqual(mapped_shape(((1, 0, 100),), ((10, 0), (0, 1))), ((1, 0, 1000),))
        self.assertEqual(mapped_shape(((1, 0, -100),), ((10, 0), (0, 1))), ((1, 0, -1000),))
        self.assertEqual(mapped_shape(((1, 100, 1),), ((1, 0), (0, 1))), ((1, 100, 1),))
        self.assertEqual(mapped_shape(((1, 100, 0),), ((10, 0), (0, 1))), ((1, 1000, 0),))
        # Divided first: it is the line without a common divisor that has its bounds.
        self.assertEqual(mapped_shape(((1000, 0, 1000),), ((10, 0), (0, 10))), ((1, 0, 10),))
        for shape, matrix in ((((1, 0, 101),), ((10, 0), (0, 1))), (((1, 0, -101),), ((10, 0), (0, 1))),
                              (((1, 101, 0),), ((10, 0), (0, 1))), (((1, -101, 0),), ((10, 0), (0, 1))),
                              (((0, 1, 5), (1, 0, 101)), ((10, 0), (0, 1))), (((999, 2, 7),), ((1, 2), (3, 4)))):
            self.assertEqual(self.refused(TooGreat, mapped_shape, shape, matrix).most, 1000)

    def test_numbers_of_matrices_up_to_ten(self):
        for matrix in (((10, 0), (0, 1)), ((-10, 0), (0, 1)), ((0, 10), (10, 0)), ((1, -10), (0, 1)), ((10, 9), (9, 8))):
            self.assertEqual(mapped((((1, 0),),), matrix), ((map_point(matrix, 1, 0),),))

    def test_what_is_no_matrix(self):
        self.each_refused(BadParameter, NO_MATRICES, mapped, [EXAMPLE_PAYS, None], 1)
        self.each_refused(BadParameter, NO_MATRICES, mapped_shape, [CORNER, None], 1)


class MovedTest(RefusalCase):
    def test_pay_by_pay(self):
        for pays in ALL_PAYS:
            for shift in SHIFTS:
                told = tuple(tuple((x + shift[0], y + shift[1]) for x, y in act) for act in pays)
                if greatest(all_pairs(told)) > 100:
                    self.assertEqual(self.refused(TooGreat, moved, pays, shift).most, 100)
                else:
                    self.assertEqual(moved(pays, shift), told)

    def test_points_in_the_shape_exactly_if_the_moved_ones_are(self):
        many = {True: 0, False: 0}
        for at, shape in enumerate(SHAPES):
            right, up = SHIFTS[at % 5]
            told = tuple((a, b, c + a * right + b * up) for a, b, c in shape)
            if greatest(told) > 1000:
                self.assertEqual(self.refused(TooGreat, moved_shape, shape, (right, up)).most, 1000)
                continue
            other = moved_shape(shape, (right, up))
            self.assertEqual(other, told)
            self.assertEqual(need_shape(other), told)
            for x, y in points_for(shape):
                inside = let_by(shape, x, y)
                many[inside] += 1
                self.assertIs(let_by(other, x + right, y + up), inside)
        self.assertGreater(min(many.values()), 1000)

    def test_a_and_b_stay(self):
        self.assertEqual(moved_shape(((2, 4, 6), (0, 3, 0)), (1, 1)), ((2, 4, 12), (0, 3, 3)))
        self.assertEqual(moved_shape(((2, 4, 6),), (0, 0)), ((2, 4, 6),))
        self.assertEqual(moved_shape(((-2, -4, 8),), (-3, 5)), ((-2, -4, -6),))

    def test_led_exactly_if_the_moved_one_is(self):
        found = {True: 0, False: 0}
        for at, (pays, shape) in enumerate(CASES):
            shift = SHIFTS[1 + at % 4]
            lines = [(a, b, c + a * shift[0] + b * shift[1]) for a, b, c in shape]
            if greatest(lines) <= 1000 and greatest([(x + shift[0], y + shift[1]) for x, y in all_pairs(pays)]) <= 100:
                right = is_led(pays, shape)
                found[right] += 1
                self.assertIs(is_led(moved(pays, shift), moved_shape(shape, shift)), right)
        self.assertGreater(min(found.values()), 100)

    def test_just_at_the_bounds(self):
        self.assertEqual(moved((((0, 0),),), (100, -100)), (((100, -100),),))
        self.assertEqual(moved((((-100, 100),),), (100, -100)), (((0, 0),),))
        for pays, shift in (((((1, 0),),), (100, 0)), ((((0, -1),),), (0, -100)), ((((0, 0),), ((0, 100),)), (0, 1))):
            self.assertEqual(self.refused(TooGreat, moved, pays, shift).most, 100)
        self.assertEqual(moved_shape(((1, 0, 900),), (100, 0)), ((1, 0, 1000),))
        self.assertEqual(moved_shape(((10, 0, -2),), (-99, 7)), ((10, 0, -992),))
        self.assertEqual(moved_shape(((10, 0, 0),), (-100, 7)), ((10, 0, -1000),))
        for shape, shift in ((((1, 0, 901),), (100, 0)), (((10, 0, -1),), (-100, 0)), (((0, 1, 0), (5, 6, 0)), (91, 91))):
            self.assertEqual(self.refused(TooGreat, moved_shape, shape, shift).most, 1000)

    def test_what_is_no_shift(self):
        self.each_refused(BadParameter, NO_SHIFTS, moved, [EXAMPLE_PAYS, None], 1)
        self.each_refused(BadParameter, NO_SHIFTS, moved_shape, [CORNER, None], 1)
        self.each_refused(BadParameter, NO_SHIFTS, moved, [(((100, 100),),), None], 1)


class EitherTest(RefusalCase):
    def test_acts_put_together_and_parted_again(self):
        for one, other in product(ALL_PAYS[::3], ALL_PAYS[::4]):
            if len(one[0]) != len(other[0]):
                self.refused_value(BadParameter, other, either_acts, one, other)
            elif len(one) + len(other) > 4:
                self.assertEqual(self.refused(TooGreat, either_acts, one, other).most, 4)
            else:
                both = either_acts(one, other)
                self.assertEqual(both, one + other)
                self.assertEqual(some_acts(both, tuple(range(len(one)))), one)
                self.assertEqual(some_acts(both, tuple(range(len(one), len(both)))), other)

    def test_answers_put_together_and_parted_again(self):
        for one, other in product(ALL_PAYS[::3], ALL_PAYS[::4]):
            if len(one) != len(other):
                self.refused_value(BadParameter, other, either_answers, one, other)
            elif len(one[0]) + len(other[0]) > 4:
                self.assertEqual(self.refused(TooGreat, either_answers, one, other).most, 4)
            else:
                both = either_answers(one, other)
                self.assertEqual(both, tuple(one[act] + other[act] for act in range(len(one))))
                self.assertEqual(some_answers(both, tuple(range(len(one[0])))), one)
                self.assertEqual(some_answers(both, tuple(range(len(one[0]), len(both[0])))), other)

    def test_four_and_five(self):
        acts = TALL_PAYS[:3]
        self.assertEqual(either_acts(acts, TALL_PAYS[3:]), TALL_PAYS)
        self.assertEqual(self.refused(TooGreat, either_acts, acts, TALL_PAYS[2:]).most, 4)
        self.assertEqual(self.refused(TooGreat, either_acts, TALL_PAYS, TALL_PAYS).most, 4)
        answers = some_answers(FULL_PAYS, (0, 1, 2))
        self.assertEqual(either_answers(answers, some_answers(FULL_PAYS, (3,))), FULL_PAYS)
        self.assertEqual(self.refused(TooGreat, either_answers, answers, some_answers(FULL_PAYS, (0, 3))).most, 4)
        self.assertEqual(self.refused(TooGreat, either_answers, FULL_PAYS, FULL_PAYS).most, 4)
        # Another number is told ahead of what is too great.
        self.refused_value(BadParameter, FULL_PAYS, either_acts, TALL_PAYS, FULL_PAYS)
        wide = some_acts(FULL_PAYS, (0, 1))
        self.refused_value(BadParameter, wide, either_answers, FULL_PAYS, wide)

    def test_more_acts_and_fewer_answers_stay_led(self):
        led = 0
        for pays, shape in CASES:
            if not is_led(pays, shape):
                continue
            led += 1
            for lot in lots_of(len(pays[0])):
                self.assertIs(is_led(some_answers(pays, lot), shape), True)
            for other in ALL_PAYS[::7]:
                if len(other[0]) == len(pays[0]) and len(other) + len(pays) <= 4:
                    self.assertIs(is_led(either_acts(pays, other), shape), True)
                    self.assertIs(is_led(either_acts(other, pays), shape), True)
        self.assertGreater(led, 100)

    def test_led_by_the_answers_of_both_means_by_each(self):
        both = 0
        for one, other in product(ALL_PAYS[::2], ALL_PAYS[1::2]):
            if len(one) == len(other) and len(one[0]) + len(other[0]) <= 4:
                for shape in SHAPES[::13]:
                    if is_led(either_answers(one, other), shape):
                        both += 1
                        self.assertTrue(is_led(one, shape) and is_led(other, shape))
        self.assertGreater(both, 30)

    def test_led_by_each_but_not_by_both(self):
        # Each answer alone is led by an act; no dice do for both.
        one, other = (((0, 0),), ((1, 0),)), (((1, 0),), ((0, 0),))
        for pays in (one, other):
            self.assertIs(is_led(pays, ((1, 0, 0),)), True)
        self.assertIs(is_led(either_answers(one, other), ((1, 0, 0),)), False)
        self.assertIs(is_led(either_answers(one, other), ((2, 0, 1),)), True)

    def test_wrong_pays(self):
        for call in (either_acts, either_answers):
            for place, value in NO_PAYS:
                self.refused_place(place, BadPays, call, value, EXAMPLE_PAYS)
                self.refused_place(place, BadPays, call, EXAMPLE_PAYS, value)
            self.refused_place((), BadPays, call, None, (None,))
            # Behind the errors of both comes what doesn't fit.
            self.refused_place((0,), BadPays, call, FULL_PAYS, (None,))


class SomeTest(RefusalCase):
    def test_all_lots(self):
        for pays in ALL_PAYS:
            for lot in lots_of(len(pays)):
                self.assertEqual(some_acts(pays, lot), tuple(pays[act] for act in lot))
            for lot in lots_of(len(pays[0])):
                self.assertEqual(some_answers(pays, lot), tuple(tuple(act[at] for at in lot) for act in pays))
        for shape in SHAPES[::3]:
            for lot in lots_of(len(shape)):
                self.assertEqual(some_lines(shape, lot), tuple(shape[at] for at in lot))

    def test_one_and_all(self):
        for pays in ALL_PAYS:
            self.assertEqual(some_acts(pays, tuple(range(len(pays)))), pays)
            self.assertEqual(some_answers(pays, tuple(range(len(pays[0])))), pays)
            self.assertEqual(some_acts(pays, (0,)), pays[:1])
        self.assertEqual(some_lines(OCTAGON, tuple(range(8))), OCTAGON)
        self.assertEqual(some_lines(OCTAGON, (7,)), OCTAGON[7:])
        self.assertEqual(some_lines(HALF_PLANE, (0,)), HALF_PLANE)

    def test_what_is_no_lot(self):
        self.each_refused(BadParameter, NO_LOTS, some_acts, [EXAMPLE_PAYS, None], 1)
        self.each_refused(BadParameter, NO_LOTS, some_answers, [EXAMPLE_PAYS, None], 1)
        self.each_refused(BadParameter, NO_LOTS, some_lines, [CORNER, None], 1)
        # Numbers of acts, of answers, of lines.
        self.assertEqual(some_acts(ONE_ANSWER_PAYS, (1,)), ONE_ANSWER_PAYS[1:])
        self.refused_value(BadParameter, (1,), some_answers, ONE_ANSWER_PAYS, (1,))
        self.assertEqual(some_answers(ONE_ACT_PAYS, (1,)), (((0, 1),),))
        self.refused_value(BadParameter, (1,), some_acts, ONE_ACT_PAYS, (1,))
        self.refused_value(BadParameter, (8,), some_lines, OCTAGON, (8,))

    def test_wrong_pays_and_shapes(self):
        for place, value in NO_PAYS:
            for call, more in ((some_acts, (0,)), (some_answers, (0,)), (mapped, SAME), (moved, (0, 0))):
                self.refused_place(place, BadPays, call, value, more)
        for place, value in NO_SHAPES:
            for call, more in ((some_lines, (0,)), (mapped_shape, SAME), (moved_shape, (0, 0))):
                self.refused_place(place, BadShape, call, value, more)
        for call in (some_acts, some_answers, mapped, moved):
            self.refused_place((), BadPays, call, None, None)
        for call in (some_lines, mapped_shape, moved_shape, both_shapes):
            self.refused_place((), BadShape, call, None, None)

    def test_a_led_shape_stays_led_without_lines(self):
        led = 0
        for pays, shape in CASES[::3]:
            if is_led(pays, shape):
                led += 1
                for lot in lots_of(len(shape))[::3]:
                    self.assertIs(is_led(pays, some_lines(shape, lot)), True)
        self.assertGreater(led, 20)


class BothShapesTest(RefusalCase):
    def test_lines_of_both(self):
        ends = {"shape": 0, "too great": 0, "no point": 0}
        for one, other in product(SHAPES[::5], SHAPES[::7]):
            lines = tuple(dict.fromkeys(one + other))
            if len(lines) > 8:
                ends["too great"] += 1
                self.assertEqual(self.refused(TooGreat, both_shapes, one, other).most, 8)
            elif not has_point(lines):
                ends["no point"] += 1
                self.refused_place((), BadShape, both_shapes, one, other)
            else:
                ends["shape"] += 1
                self.assertEqual(both_shapes(one, other), lines)
                for x, y in points_for(one)[::5]:
                    self.assertIs(let_by(lines, x, y), let_by(one, x, y) and let_by(other, x, y))
        self.assertGreater(min(ends.values()), 10)

    def test_lines_that_stand_ahead_already(self):
        self.assertEqual(both_shapes(CORNER, CORNER), CORNER)
        self.assertEqual(both_shapes(CORNER, CORNER[::-1]), CORNER)
        self.assertEqual(both_shapes(TOLD_TWICE, TOLD_TWICE), TOLD_TWICE[:2])
        self.assertEqual(both_shapes(TOLD_TWICE, CORNER), TOLD_TWICE[:2] + CORNER)
        self.assertEqual(both_shapes(CORNER, TOLD_TWICE), CORNER + TOLD_TWICE[:2])
        self.assertEqual(both_shapes(((1, 0, 5),) * 8, ((0, 1, 5),) * 8), ((1, 0, 5), (0, 1, 5)))
        self.assertEqual(both_shapes(((1, 0, 5), (0, 1, 1), (1, 0, 5)), ((0, 1, 1), (1, 1, 9))),
                         ((1, 0, 5), (0, 1, 1), (1, 1, 9)))
        # Lines that let the same points, but aren't equal, stay.
        self.assertEqual(both_shapes(((1, 0, 1),), ((2, 0, 2),)), ((1, 0, 1), (2, 0, 2)))

    def test_eight_lines_and_nine(self):
        self.assertEqual(both_shapes(OCTAGON[:5], OCTAGON[5:]), OCTAGON)
        self.assertEqual(both_shapes(OCTAGON, OCTAGON[2:5]), OCTAGON)
        self.assertEqual(self.refused(TooGreat, both_shapes, OCTAGON, ((2, 0, 11),)).most, 8)
        self.assertEqual(self.refused(TooGreat, both_shapes, ((2, 0, 11),), OCTAGON).most, 8)
        # What is too great is told ahead of a missing common point.
        self.assertEqual(self.refused(TooGreat, both_shapes, OCTAGON, ((1, 0, -6),)).most, 8)
        self.refused_place((), BadShape, both_shapes, OCTAGON[1:], ((1, 0, -6),))

    def test_no_common_point(self):
        self.refused_place((), BadShape, both_shapes, APART[:1], APART[1:])
        self.refused_place((), BadShape, both_shapes, SINGLE_POINT, ((1, 0, 0),))
        self.assertEqual(both_shapes(SINGLE_POINT, ((1, 0, 2),)), SINGLE_POINT + ((1, 0, 2),))

    def test_what_is_common_is_led_only_if_both_are(self):
        led = 0
        for at, pays in enumerate(ALL_PAYS):
            for one, other in zip(SHAPES[at % 13::13], SHAPES[(at + 5) % 11::11]):
                lines = tuple(dict.fromkeys(one + other))
                if len(lines) <= 8 and has_point(lines) and is_led(pays, both_shapes(one, other)):
                    led += 1
                    self.assertTrue(is_led(pays, one) and is_led(pays, other))
        self.assertGreater(led, 20)

    def test_not_the_other_way_round(self):
        pays = (((0, 1),), ((1, 0),))
        self.assertIs(is_led(pays, ((1, 0, 0),)), True)
        self.assertIs(is_led(pays, ((0, 1, 0),)), True)
        self.assertIs(is_led(pays, both_shapes(((1, 0, 0),), ((0, 1, 0),))), False)

    def test_wrong_shapes(self):
        for place, value in NO_SHAPES:
            self.refused_place(place, BadShape, both_shapes, value, CORNER)
            self.refused_place(place, BadShape, both_shapes, CORNER, value)
            self.refused_place(place, BadShape, both_shapes, OCTAGON, value)
        self.refused_place((0,), BadShape, both_shapes, (None,), None)

    def test_some_of_both_are_the_lines_of_each(self):
        for one, other in ((CORNER, OCTAGON[:5]), (SQUARE, HALF_PLANE), (SINGLE_POINT, TOLD_TWICE[:2])):
            both = both_shapes(one, other)
            self.assertEqual(some_lines(both, tuple(range(len(one)))), one)
            rest = tuple(line for line in other if line not in one)
            self.assertEqual(some_lines(both, tuple(range(len(one), len(both)))), rest)

    def test_uneven_pays_are_no_shape(self):
        self.refused_place((0,), BadShape, both_shapes, UNEVEN_PAYS, CORNER)


if __name__ == "__main__":
    unittest.main()
