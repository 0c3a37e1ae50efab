"""Promises 6 and 22: ROOTs, found, halved, compared, and what lies between them."""

import unittest
from fractions import Fraction
from itertools import product
from math import gcd

from tests.common import (
    HALF_ROOT, NOUGHT_ROOT, NO_POLYS, NO_ROOTS, SKEW_ROOT, UNIT_ROOT, RefusalCase, little_polys, pair, part_of,
    power_of, product_of, tellings,
)
from withinshapes.errors import BadParameter, BadPoly
from withinshapes.polys import plain_part, roots_between
from withinshapes.roots import between, compared, halved, need_root, roots_of, sign_at

# Squares of numbers from 0 to 1, fractions and others, some of them near one another.
SQUARES = sorted([Fraction(n, d) for n, d in (
    (0, 1), (1, 1), (1, 4), (1, 9), (4, 9), (1, 2), (1, 3), (2, 3), (1, 16), (9, 16), (25, 64), (49, 100), (4, 7),
)] + [Fraction(1, 2) + Fraction(1, 10 ** 9), Fraction(1, 4) - Fraction(1, 10 ** 12), (Fraction(1, 3) + Fraction(1, 10 ** 7)) ** 2])
# Parts that no number from 0 to 1 is a root of.
AWAY = ((1, 0, 1), (-2, 1), (1, 1), (-2, 0, 1), (-7,), (3,))
ALL = {square: tellings(square, SQUARES[::4])[::5] or tellings(square, ())[:1] for square in SQUARES}
SOME = {square: roots[:: max(1, len(roots) // 3)] for square, roots in ALL.items()}
LONGEST = (-1,) + (0,) * 39 + (2,)


def own_stretches(squares, low, high):
    """The stretches, told by halving, with one each of the numbers with these squares."""
    inside = [square for square in squares if low ** 2 < square < high ** 2]
    if not inside:
        return []
    if len(inside) == 1 and low ** 2 not in squares and high ** 2 not in squares:
        return [(low, high)]
    middle = (low + high) / 2
    here = [(middle, middle)] if middle ** 2 in squares else []
    return own_stretches(squares, low, middle) + here + own_stretches(squares, middle, high)


def own_roots(squares, plain):
    """The ROOTs of a POLY with this plain part that is 0 at the numbers with these squares."""
    stretches = own_stretches(squares, Fraction(0), Fraction(1))
    found = [((), pair(low), pair(high)) if low == high else (plain, pair(low), pair(high)) for low, high in stretches]
    first = [NOUGHT_ROOT] if 0 in squares else []
    last = [UNIT_ROOT] if 1 in squares else []
    return tuple(first + found + last)


def own_between(one, other):
    """The first fraction between the numbers with two squares, by denominators, then by numerators."""
    below = 2
    while True:
        for above in range(1, below):
            if gcd(above, below) == 1 and one < Fraction(above, below) ** 2 < other:
                return (above, below)
        below += 1


def own_between_near(one, other):
    """The same by mediants from 0 and 1 on: what lies beyond is left behind, many steps at once."""
    low, high = (0, 1), (1, 0)
    while True:
        for upward in (True, False):
            far, near = (low, high) if upward else (high, low)

            def place(many):
                return (far[0] + many * near[0], far[1] + many * near[1])

            def beyond(many):
                above, below = place(many)
                square = Fraction(above, below) ** 2 if below else None
                return square is not None and (square <= one if upward else square >= other)

            many = 1
            while beyond(many):
                many *= 2
            least, most = many // 2, many
            while most - least > 1:
                middle = (least + most) // 2
                least, most = (middle, most) if beyond(middle) else (least, middle)
            if upward:
                low = place(least)
            else:
                high = place(least)
            found = (low[0] + high[0], low[1] + high[1])
            if one < Fraction(*found) ** 2 < other:
                return found


def sign(number):
    return (number > 0) - (number < 0)


def sign_of_part(other, square):
    """The sign of the part of one square at the number with another one, from nought on."""
    return sign(square - other)


class NeedRootTest(RefusalCase):
    def test_roots_are_returned(self):
        for roots in ALL.values():
            for root in roots:
                self.assertIs(need_root(root), root)

    def test_the_ends_of_all_and_any_number(self):
        for root in (NOUGHT_ROOT, UNIT_ROOT, HALF_ROOT, SKEW_ROOT, ((), (1, 10 ** 40), (1, 10 ** 40))):
            self.assertIs(need_root(root), root)

    def test_many_times_a_root(self):
        for many in (1, 3, 5, 39):
            root = (power_of((-1, 2), many), (0, 1), (1, 1))
            self.assertIs(need_root(root), root)
            wrong = (power_of((-1, 2), many + 1), (0, 1), (1, 1))
            self.refused_value(BadParameter, wrong, need_root, wrong)

    def test_other_roots_only_outside(self):
        # 0 at 1/4, at 1/3 and at 1/2.
        poly = product_of((-1, 4), (-1, 3), (-1, 2))
        for low, high in (((0, 1), (2, 7)), ((2, 7), (2, 5)), ((2, 5), (1, 1))):
            root = (poly, low, high)
            self.assertIs(need_root(root), root)
        for low, high in (((0, 1), (2, 5)), ((2, 7), (1, 1)), ((0, 1), (1, 1)), ((0, 1), (1, 4)), ((0, 1), (1, 3)),
                          ((1, 4), (2, 5)), ((1, 5), (1, 3)), ((2, 7), (1, 2)), ((1, 3), (1, 1)), ((0, 1), (1, 5))):
            wrong = (poly, low, high)
            self.refused_value(BadParameter, wrong, need_root, wrong)

    def test_forty_one_things_and_no_more(self):
        root = (LONGEST, (0, 1), (1, 1))
        self.assertIs(need_root(root), root)
        wrong = ((-1,) + (0,) * 40 + (2,), (0, 1), (1, 1))
        self.refused_value(BadParameter, wrong, need_root, wrong)

    def test_great_integers(self):
        near = Fraction(1, 3) + Fraction(1, 10 ** 60)
        poly = product_of((-1, 3), (-near.numerator, near.denominator))
        middle = pair((near + Fraction(1, 3)) / 2)
        for root in ((poly, (0, 1), middle), (poly, middle, (1, 1))):
            self.assertIs(need_root(root), root)
        for root in ((poly, (0, 1), (1, 1)), (poly, pair(near), (1, 1)), (poly, (1, 3), (1, 1))):
            self.refused_value(BadParameter, root, need_root, root)

    def test_what_is_none(self):
        self.each_refused(BadParameter, NO_ROOTS, need_root, [None], 0)
        self.each_refused(BadParameter, NO_ROOTS, halved, [None], 0)
        for call in (compared, between):
            self.each_refused(BadParameter, NO_ROOTS, call, [None, UNIT_ROOT], 0)
            self.each_refused(BadParameter, NO_ROOTS, call, [NOUGHT_ROOT, None], 1)
        self.each_refused(BadParameter, NO_ROOTS, sign_at, [(1, 2), None], 1)

    def test_the_first_wrong_one_is_told(self):
        wrong, other = ((-1, 2), (1, 2), (1, 1)), ((), (0, 1), (1, 2))
        for call in (compared, between):
            self.refused_value(BadParameter, wrong, call, wrong, other)
            self.refused_value(BadParameter, other, call, other, wrong)
        self.refused_value(BadPoly, (0,), sign_at, (0,), wrong)

    def test_little_polys_by_their_roots(self):
        for poly in little_polys(3):
            for low, high in (((0, 1), (1, 1)), ((1, 3), (2, 3)), ((0, 1), (1, 2)), ((1, 2), (1, 1))):
                root = (poly, low, high)
                ends = [sign(sum(number * Fraction(*end) ** at for at, number in enumerate(poly))) for end in (low, high)]
                if poly and ends[0] * ends[1] == -1 and roots_between(poly, low, high) == 1:
                    self.assertIs(need_root(root), root)
                else:
                    self.refused_value(BadParameter, root, need_root, root)


class RootsOfTest(RefusalCase):
    def test_the_example(self):
        self.assertEqual(roots_of((-1, 0, 2)), (SKEW_ROOT,))
        self.assertEqual(roots_of((0, 1, -3, 2)), (NOUGHT_ROOT, HALF_ROOT, UNIT_ROOT))

    def test_products_with_known_roots(self):
        for size in (0, 1, 2, 3, 4):
            for at in range(len(SQUARES)):
                squares = [SQUARES[(at * (size + 2) + 5 * k) % len(SQUARES)] for k in range(size)]
                for k, more in enumerate(AWAY):
                    powers = [power_of(part_of(square), 1 + (k + place) % 3) for place, square in enumerate(squares)]
                    poly = product_of(more, *powers)
                    self.assertEqual(roots_of(poly), own_roots(squares, plain_part(poly)))

    def test_the_told_halving(self):
        self.assertEqual(roots_of((-1, 3)), (((-1, 3), (0, 1), (1, 1)),))
        # A root at an end makes the stretch be halved, though there is just one between.
        self.assertEqual(roots_of((0, -1, 3)), (NOUGHT_ROOT, ((0, -1, 3), (1, 4), (1, 2))))
        self.assertEqual(roots_of(product_of((-1, 3), (-1, 1))), (((1, -4, 3), (0, 1), (1, 2)), UNIT_ROOT))
        self.assertEqual(roots_of(product_of((-1, 2), (-1, 3))),
                         (((1, -5, 6), (1, 4), (3, 8)), HALF_ROOT))
        self.assertEqual(roots_of(product_of((-1, 4), (-3, 4))), (((3, -16, 16), (0, 1), (1, 2)),
                                                                   ((3, -16, 16), (1, 2), (1, 1))))
        # Middles of the first, second and third halving.
        self.assertEqual(roots_of(product_of((-1, 2), (-1, 4), (-7, 8))), (
            ((), (1, 4), (1, 4)), HALF_ROOT, ((-7, 50, -104, 64), (3, 4), (1, 1)),
        ))

    def test_the_plain_part_tells_them(self):
        self.assertEqual(roots_of((-2, 6)), (((-1, 3), (0, 1), (1, 1)),))
        self.assertEqual(roots_of((2, -6)), (((1, -3), (0, 1), (1, 1)),))
        self.assertEqual(roots_of((1, -6, 9)), (((-1, 3), (0, 1), (1, 1)),))
        self.assertEqual(roots_of(product_of((-4,), power_of((-1, 3), 2))), (((1, -3), (0, 1), (1, 1)),))

    def test_none_and_the_ends_alone(self):
        for poly in ((1,), (-5,), (1, 1), (1, 0, 1), (-2, 1), (10 ** 40, 1)):
            self.assertEqual(roots_of(poly), ())
        self.assertEqual(roots_of((0, 3)), (NOUGHT_ROOT,))
        self.assertEqual(roots_of((0, 0, 0, -1)), (NOUGHT_ROOT,))
        self.assertEqual(roots_of((1, -2, 1)), (UNIT_ROOT,))
        self.assertEqual(roots_of((0, -2, 2)), (NOUGHT_ROOT, UNIT_ROOT))

    def test_little_polys(self):
        for poly in little_polys(4):
            if poly:
                roots = roots_of(poly)
                self.assertEqual(len(roots), roots_between(poly, (0, 1), (1, 1)) + (poly[0] == 0) + (sum(poly) == 0))
                for root in roots:
                    self.assertIs(need_root(root), root)
                    self.assertIn(root[0], ((), plain_part(poly)))
                for one, other in zip(roots, roots[1:]):
                    self.assertEqual(compared(one, other), -1)

    def test_roots_near_one_another(self):
        for far in (10 ** 6, 10 ** 40, 10 ** 120):
            squares = [Fraction(1, 9), (Fraction(1, 3) + Fraction(1, far)) ** 2]
            poly = product_of(*[part_of(square) for square in squares])
            one, other = roots_of(poly)
            self.assertEqual((one[0], other[0]), (poly, poly))
            self.assertEqual(one[2], other[1])
            self.assertEqual(roots_between(poly, one[1], one[2]), 1)
            self.assertEqual(Fraction(*one[2]) - Fraction(*one[1]), Fraction(*other[2]) - Fraction(*other[1]))
            if far < 10 ** 41:
                self.assertEqual((one, other), own_roots(squares, poly))

    def test_forty_one_things(self):
        self.assertEqual(roots_of(LONGEST), ((LONGEST, (0, 1), (1, 1)),))
        self.assertEqual(roots_of((0,) * 40 + (1,)), (NOUGHT_ROOT,))
        poly = product_of(*[(-place, 41) for place in range(1, 41)])
        self.assertEqual(roots_of(poly), own_roots([Fraction(place, 41) ** 2 for place in range(1, 41)], poly))

    def test_wrong_polys(self):
        self.each_refused(BadPoly, NO_POLYS + ((),), roots_of, [None], 0)


class HalvedTest(unittest.TestCase):
    def test_the_example(self):
        self.assertEqual(halved(SKEW_ROOT), ((-1, 0, 2), (1, 2), (1, 1)))

    def test_numbers_stay(self):
        for square in SQUARES:
            for root in ALL[square]:
                poly, low, high = root
                found = halved(root)
                middle = (Fraction(*low) + Fraction(*high)) / 2
                if poly == ():
                    self.assertEqual(found, root)
                elif middle ** 2 == square:
                    self.assertEqual(found, ((), pair(middle), pair(middle)))
                elif middle ** 2 < square:
                    self.assertEqual(found, (poly, pair(middle), high))
                else:
                    self.assertEqual(found, (poly, low, pair(middle)))
                self.assertIs(need_root(found), found)

    def test_again_and_again(self):
        for square in SQUARES:
            root = ALL[square][-1]
            for _ in range(60):
                root = halved(root)
            poly, low, high = root
            if poly == ():
                self.assertEqual(Fraction(*low) ** 2, square)
            else:
                self.assertTrue(Fraction(*low) ** 2 < square < Fraction(*high) ** 2)
                self.assertLessEqual(Fraction(*high) - Fraction(*low), Fraction(1, 2 ** 60))

    def test_by_hand(self):
        for root in (NOUGHT_ROOT, HALF_ROOT, UNIT_ROOT, ((), (3, 7), (3, 7))):
            self.assertEqual(halved(root), root)
        self.assertEqual(halved(((-1, 2), (0, 1), (1, 1))), HALF_ROOT)
        self.assertEqual(halved(((-1, 3), (0, 1), (1, 1))), ((-1, 3), (0, 1), (1, 2)))
        self.assertEqual(halved(((-4, 9), (1, 3), (5, 9))), ((), (4, 9), (4, 9)))
        # The POLY stays as it is, plain or not.
        root = (power_of((2, -6), 3), (0, 1), (1, 1))
        self.assertEqual(halved(root), (root[0], (0, 1), (1, 2)))


class ComparedTest(unittest.TestCase):
    def test_all_with_all(self):
        for one, other in product(SQUARES, repeat=2):
            for first, second in product(SOME[one], SOME[other]):
                self.assertEqual(compared(first, second), sign(one - other))

    def test_one_number_told_in_all_ways(self):
        for square in SQUARES:
            for one, other in product(ALL[square][:12], repeat=2):
                self.assertEqual(compared(one, other), 0)

    def test_the_ends(self):
        for root in (SKEW_ROOT, HALF_ROOT, ((-1, 10 ** 40), (0, 1), (1, 1)), ((1 - 10 ** 40, 10 ** 40), (0, 1), (1, 1))):
            self.assertEqual(compared(NOUGHT_ROOT, root), -1)
            self.assertEqual(compared(root, NOUGHT_ROOT), 1)
            self.assertEqual(compared(root, UNIT_ROOT), -1)
            self.assertEqual(compared(UNIT_ROOT, root), 1)
        self.assertEqual(compared(NOUGHT_ROOT, NOUGHT_ROOT), 0)
        self.assertEqual(compared(NOUGHT_ROOT, UNIT_ROOT), -1)
        self.assertEqual(compared(UNIT_ROOT, UNIT_ROOT), 0)

    def test_stretches_that_touch(self):
        # One number is the very end of the other one's stretch.
        root = ((-1, 0, 2), (1, 2), (1, 1))
        self.assertEqual(compared(HALF_ROOT, root), -1)
        self.assertEqual(compared(root, HALF_ROOT), 1)
        self.assertEqual(compared(((-1, 2), (0, 1), (1, 1)), root), -1)
        self.assertEqual(compared(((-1, 3), (0, 1), (1, 2)), root), -1)

    def test_a_part_in_common_away_from_both(self):
        # Both are 0 at 1/2, which is neither's number.
        one = (product_of((-1, 2), (-1, 3)), (0, 1), (2, 5))
        other = (product_of((-1, 2), (-2, 3)), (3, 5), (1, 1))
        self.assertEqual(compared(one, other), -1)
        wide = (product_of((-1, 2), (-1, 4)), (0, 1), (2, 5))
        self.assertEqual(compared(one, wide), 1)
        self.assertEqual(compared(wide, one), -1)

    def test_numbers_near_one_another(self):
        for far in (10 ** 9, 10 ** 50, 10 ** 150):
            near = Fraction(1, 2) + Fraction(1, far)
            one, other = SKEW_ROOT, (part_of(near), (0, 1), (1, 1))
            self.assertEqual(compared(one, other), -1)
            self.assertEqual(compared(other, one), 1)
            third = ((), pair(Fraction(1, 3) + Fraction(1, far)), pair(Fraction(1, 3) + Fraction(1, far)))
            self.assertEqual(compared(((-1, 3), (0, 1), (1, 1)), third), -1)

    def test_forty_one_things(self):
        poly = product_of(power_of((-1, 2), 19), power_of((1, 0, 1), 5), power_of((-1, 0, 2), 5))
        self.assertEqual(len(poly), 40)
        low, high = (poly, (0, 1), (3, 5)), (poly, (3, 5), (1, 1))
        self.assertEqual(compared(low, HALF_ROOT), 0)
        self.assertEqual(compared(high, SKEW_ROOT), 0)
        self.assertEqual(compared(low, high), -1)
        self.assertEqual(compared(high, ((-1, 0, 2), (2, 3), (5, 6))), 0)


class SignAtTest(unittest.TestCase):
    def test_products_of_known_parts(self):
        for square in SQUARES:
            for root in SOME[square]:
                for at, other in enumerate(SQUARES):
                    more = SQUARES[(at + 7) % len(SQUARES)]
                    for one, two, factor in ((1, 0, 1), (2, 1, -5), (1, 3, 2), (4, 2, -1), (0, 0, 7)):
                        poly = product_of((factor,), power_of(part_of(other), one), power_of(part_of(more), two))
                        told = sign(factor) * sign_of_part(other, square) ** one * sign_of_part(more, square) ** two
                        self.assertEqual(sign_at(poly, root), told)

    def test_nought_is_nought_everywhere(self):
        for roots in SOME.values():
            for root in roots:
                self.assertEqual(sign_at((), root), 0)
                self.assertEqual(sign_at((3,), root), 1)
                self.assertEqual(sign_at((-3,), root), -1)

    def test_another_root_within_the_stretch(self):
        # The sign at the number is not that at the ends.
        self.assertEqual(sign_at((-3, 4), SKEW_ROOT), -1)
        self.assertEqual(sign_at((-2, 3), SKEW_ROOT), 1)
        self.assertEqual(sign_at(product_of((-2, 3), (-3, 4)), SKEW_ROOT), -1)
        self.assertEqual(sign_at(product_of((-2, 3), (-2, 3), (-3, 4)), SKEW_ROOT), -1)
        near = Fraction(1, 2) + Fraction(1, 10 ** 60)
        self.assertEqual(sign_at(part_of(near), SKEW_ROOT), -1)
        self.assertEqual(sign_at(product_of((-1,), part_of(near)), SKEW_ROOT), 1)

    def test_an_even_part_in_common(self):
        # The number is three times one of the ROOT's POLY, but twice one of the other.
        root = (power_of((-1, 0, 2), 3), (0, 1), (1, 1))
        self.assertEqual(sign_at(power_of((-1, 0, 2), 2), root), 0)
        self.assertEqual(sign_at(product_of((1, 1), power_of((-1, 0, 2), 4)), root), 0)

    def test_a_number_in_common_outside_of_the_stretch(self):
        root = (product_of((-1, 2), (-1, 4)), (2, 5), (1, 1))
        self.assertEqual(sign_at((-1, 4), root), 1)
        self.assertEqual(sign_at((-1, 2), root), 0)
        self.assertEqual(sign_at(product_of((-1, 4), (-3, 4)), root), -1)


class BetweenTest(RefusalCase):
    def test_all_with_all(self):
        for at, one in enumerate(SQUARES):
            for other in SQUARES[at + 1:]:
                if other - one > Fraction(1, 1000):
                    told = own_between(one, other)
                    self.assertEqual(told, own_between_near(one, other))
                    for first, second in product(SOME[one], SOME[other]):
                        self.assertEqual(between(first, second), told)

    def test_numbers_side_by_side(self):
        for at, one in enumerate(SQUARES):
            for other in SQUARES[at + 1:at + 3]:
                told = own_between_near(one, other)
                for first, second in product(ALL[one][:9], ALL[other][:9]):
                    self.assertEqual(between(first, second), told)

    def test_other_roots_just_outside_of_the_stretch(self):
        # Both POLYs have roots on either side that must not come in when a stretch is cut.
        away = [Fraction(1, 2) + Fraction(part, 10 ** 4) for part in (-9, -7, -5, -3, 3, 5, 7, 9)]
        poly = product_of(*[part_of(square) for square in away + [Fraction(1, 2)]])
        other = Fraction(1, 2) + Fraction(1, 10 ** 9)
        more = product_of(*[part_of(square) for square in away + [other]])
        low, high = (7069, 10000), (7073, 10000)
        told = own_between_near(Fraction(1, 2), other)
        for first in ((poly, low, high), SKEW_ROOT, ((-1, 0, 2), (7, 10), (5, 7)), ((-1, 0, 2), (1, 2), high)):
            for second in ((more, low, high), (part_of(other), (0, 1), (1, 1)), (part_of(other), low, (1, 1))):
                self.assertEqual(between(first, second), told)
                self.assertEqual(compared(first, second), -1)
                self.refused_value(BadParameter, first, between, second, first)
        told = own_between_near(Fraction(0), other)
        self.assertEqual(between(NOUGHT_ROOT, (more, low, high)), told)
        self.assertEqual(between((poly, low, high), UNIT_ROOT), own_between_near(Fraction(1, 2), Fraction(1)))

    def test_by_hand(self):
        self.assertEqual(between(NOUGHT_ROOT, UNIT_ROOT), (1, 2))
        self.assertEqual(between(NOUGHT_ROOT, HALF_ROOT), (1, 3))
        self.assertEqual(between(HALF_ROOT, UNIT_ROOT), (2, 3))
        self.assertEqual(between(NOUGHT_ROOT, SKEW_ROOT), (1, 2))
        self.assertEqual(between(SKEW_ROOT, UNIT_ROOT), (3, 4))
        self.assertEqual(between(HALF_ROOT, SKEW_ROOT), (2, 3))
        self.assertEqual(between(((), (2, 5), (2, 5)), HALF_ROOT), (3, 7))
        self.assertEqual(between(((-2, 5), (0, 1), (1, 1)), ((-1, 2), (0, 1), (1, 1))), (3, 7))

    def test_numbers_of_the_two_are_not_between(self):
        third = ((-1, 3), (0, 1), (1, 1))
        self.assertEqual(between(third, HALF_ROOT), (2, 5))
        self.assertEqual(between(NOUGHT_ROOT, third), (1, 4))
        self.assertEqual(between(third, ((-1, 2), (0, 1), (1, 1))), (2, 5))
        self.assertEqual(between((power_of((-2, 3), 3), (1, 7), (6, 7)), ((-5, 7), (0, 1), (1, 1))), (7, 10))

    def test_near_the_ends(self):
        for far in (10, 1000, 10 ** 6, 10 ** 40):
            self.assertEqual(between(NOUGHT_ROOT, ((), (1, far), (1, far))), (1, far + 1))
            self.assertEqual(between(NOUGHT_ROOT, ((-1, far), (0, 1), (1, 1))), (1, far + 1))
            self.assertEqual(between(((), (far - 1, far), (far - 1, far)), UNIT_ROOT), (far, far + 1))
            self.assertEqual(between(((1 - far, far), (0, 1), (1, 1)), UNIT_ROOT), (far, far + 1))

    def test_neighbours(self):
        # Between two fractions with N * M less L * K of 1 the first one is that of both sums.
        for one, other in (((1, 2), (501, 1001)), ((3, 7), (4, 9)), ((10 ** 40 - 1, 10 ** 40), (10 ** 40, 10 ** 40 + 1))):
            self.assertEqual(other[0] * one[1] - one[0] * other[1], 1)
            told = (one[0] + other[0], one[1] + other[1])
            self.assertEqual(between(((), one, one), ((), other, other)), told)
            self.assertEqual(between(((-one[0], one[1]), (0, 1), (1, 1)), ((), other, other)), told)
            self.assertEqual(between(((), one, one), ((other[0], -other[1]), (0, 1), (1, 1))), told)

    def test_numbers_near_one_another(self):
        near = (part_of(Fraction(1, 2) + Fraction(1, 10 ** 12)), (0, 1), (1, 1))
        above, below = between(SKEW_ROOT, near)
        self.assertTrue(Fraction(1, 2) < Fraction(above, below) ** 2 < Fraction(1, 2) + Fraction(1, 10 ** 12))
        # No lesser denominator has one: the least number above the first ROOT's is too great for each.
        for less in range(2, min(below, 4000)):
            least = next(n for n in range(int(less * 0.7), less + 1) if 2 * n * n > less * less)
            self.assertGreaterEqual(Fraction(least, less) ** 2, Fraction(1, 2) + Fraction(1, 10 ** 12))

    def test_not_less(self):
        for one, other in product(SQUARES[::2], repeat=2):
            if one >= other:
                for first, second in product(SOME[one], SOME[other]):
                    self.refused_value(BadParameter, second, between, first, second)
        self.refused_value(BadParameter, NOUGHT_ROOT, between, UNIT_ROOT, NOUGHT_ROOT)


if __name__ == "__main__":
    unittest.main()
