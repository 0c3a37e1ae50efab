"""Promise 21: polynomials, what they have in common, Sturm's rows."""

import unittest
from fractions import Fraction
from itertools import product
from math import gcd, lcm
from random import Random

from tests.common import NO_FRACTIONS, NO_POLYS, RefusalCase, is_whole, little_polys, own_at, pair, power_of, product_of
from withinshapes.errors import BadParameter, BadPoly
from withinshapes.polys import (
    changes_at, common_part, need_poly, parted_by, plain_part, poly_at, poly_minus, poly_plus, poly_times,
    roots_between, slope_of, sturm_row,
)

LITTLE = little_polys(3)
GREAT = (10 ** 40, -(10 ** 60) + 7, 0, 3 * 10 ** 50)
LONGEST = tuple(range(1, 42))
TOO_LONG = tuple(range(1, 43))
PLACES = [Fraction(n, d) for n, d in ((0, 1), (1, 1), (-1, 1), (1, 2), (-2, 3), (7, 3), (10 ** 20, 3), (1, 10 ** 20))]

# No number is a root of these: T * T + 1, T * T + T + 1, T ** 4 + 2.
ROOTLESS = ((1, 0, 1), (1, 1, 1), (2, 0, 0, 0, 1))


def thing(poly, place):
    """The number for T to a power, 0 where the POLY has none."""
    return poly[place] if place < len(poly) else 0


def trimmed(numbers):
    """A row of integers without the noughts at its end."""
    numbers = list(numbers)
    while numbers and numbers[-1] == 0:
        numbers.pop()
    return tuple(numbers)


def own_division(one, other):
    """Quotient and rest in Python's own fractions."""
    rest = [Fraction(number) for number in one]
    quotient = []
    while len(rest) >= len(other):
        factor = rest[-1] / other[-1]
        quotient.insert(0, factor)
        shift = len(rest) - len(other)
        rest = [number - factor * thing(other, at - shift) if at >= shift else number for at, number in enumerate(rest)]
        rest.pop()
    return quotient, trimmed(rest)


def own_common(one, other):
    """What two POLYs have in common, by fractions, whole, its last thing above 0."""
    while other:
        one, other = other, own_division(one, other)[1]
    return own_whole(one) if not one or one[-1] > 0 else own_whole([-number for number in one])


def own_whole(numbers):
    """Fractions times one above nought, so that they are integers that nothing divides."""
    if not numbers:
        return ()
    times = lcm(*[Fraction(number).denominator for number in numbers])
    wholes = [int(number * times) for number in numbers]
    return tuple(number // gcd(*wholes) for number in wholes)


def linear(root):
    """The POLY that is 0 at a fraction alone."""
    return (-root.numerator, root.denominator)


def made_polys(many, seed):
    """So many POLYs with known roots, each with its known roots, always the same for one seed."""
    drawn = Random(seed)
    found = []
    for _ in range(many):
        roots = sorted({Fraction(drawn.randint(-3, 8), drawn.randint(1, 6)) for _ in range(drawn.randint(0, 4))})
        parts = [power_of(linear(root), drawn.randint(1, 3)) for root in roots]
        parts += [power_of(drawn.choice(ROOTLESS), drawn.randint(0, 2))]
        parts += [(drawn.choice((-6, -1, 1, 4)),)]
        found.append((product_of(*parts), roots))
    return found


MADE = made_polys(120, 3)


class NeedPolyTest(RefusalCase):
    def test_polys_are_returned(self):
        for poly in LITTLE + [(), (5,), (-1,), (0, 1), GREAT, LONGEST, (0,) * 40 + (-1,)]:
            self.assertIs(need_poly(poly), poly)

    def test_forty_one_things_and_no_more(self):
        self.assertIs(need_poly((1,) * 41)[40], 1)
        self.refused_value(BadPoly, TOO_LONG, need_poly, TOO_LONG)

    def test_what_is_none(self):
        self.each_refused(BadPoly, NO_POLYS, need_poly, [None], 0)

    def test_each_poly_handed_in_is_checked(self):
        for call in (poly_plus, poly_minus, poly_times, parted_by, common_part):
            self.each_refused(BadPoly, NO_POLYS, call, [None, (1, 2)], 0)
            self.each_refused(BadPoly, NO_POLYS, call, [(1, 2), None], 1)
        for call in (slope_of, plain_part, sturm_row):
            self.each_refused(BadPoly, NO_POLYS, call, [None], 0)
        for call in (poly_at, changes_at):
            self.each_refused(BadPoly, NO_POLYS, call, [None, (1, 2)], 0)
        self.each_refused(BadPoly, NO_POLYS, roots_between, [None, (0, 1), (1, 1)], 0)

    def test_the_first_wrong_one_is_told(self):
        for call in (poly_plus, poly_minus, poly_times, parted_by, common_part):
            self.refused_value(BadPoly, (0,), call, (0,), (1, 0))
            self.refused_value(BadPoly, (0,), call, (0,), ())
        for call in (poly_at, changes_at):
            self.refused_value(BadPoly, (0,), call, (0,), (2, 4))
        self.refused_value(BadPoly, (0,), roots_between, (0,), (2, 4), None)
        self.refused_value(BadPoly, TOO_LONG, roots_between, TOO_LONG, (1, 1), (0, 1))


class SumsTest(unittest.TestCase):
    def test_thing_by_thing(self):
        for one, other in product(LITTLE + [GREAT], repeat=2):
            places = range(max(len(one), len(other)))
            self.assertEqual(poly_plus(one, other), trimmed(thing(one, at) + thing(other, at) for at in places))
            self.assertEqual(poly_minus(one, other), trimmed(thing(one, at) - thing(other, at) for at in places))
            many = len(one) + len(other)
            self.assertEqual(poly_times(one, other), trimmed(
                sum(thing(one, at) * thing(other, place - at) for at in range(place + 1)) for place in range(many)
            ))

    def test_what_comes_to_nought(self):
        for poly in LITTLE + [GREAT, LONGEST]:
            self.assertEqual(poly_minus(poly, poly), ())
            self.assertEqual(poly_plus(poly, tuple(-number for number in poly)), ())
            self.assertEqual(poly_times(poly, ()), ())
            self.assertEqual(poly_times((), poly), ())
            self.assertEqual(poly_plus(poly, ()), poly)
            self.assertEqual(poly_minus((), poly), tuple(-number for number in poly))

    def test_the_first_things_may_be_nought(self):
        self.assertEqual(poly_plus((1, 2, 3), (-1, -2, 1)), (0, 0, 4))
        self.assertEqual(poly_plus((1, 2, 3), (4, 0, -3)), (5, 2))
        self.assertEqual(poly_minus((1, 2), (0, 2, 5)), (1, 0, -5))
        self.assertEqual(poly_times((0, 1), (0, 0, 3)), (0, 0, 0, 3))
        self.assertEqual(poly_times((-1, 1), (1, 1)), (-1, 0, 1))

    def test_a_product_may_be_longer_than_what_is_handed_in(self):
        square = poly_times((1,) * 41, (1,) * 41)
        self.assertEqual(square, tuple(range(1, 42)) + tuple(range(40, 0, -1)))
        self.assertEqual(poly_plus(LONGEST, LONGEST), tuple(2 * number for number in LONGEST))


class SlopeTest(unittest.TestCase):
    def test_thing_by_thing(self):
        for poly in LITTLE + [GREAT, LONGEST]:
            self.assertEqual(slope_of(poly), trimmed((at + 1) * poly[at + 1] for at in range(len(poly) - 1)))

    def test_constants_have_none(self):
        for poly in ((), (1,), (-7,), (10 ** 40,)):
            self.assertEqual(slope_of(poly), ())
        self.assertEqual(slope_of((5, -3)), (-3,))
        self.assertEqual(slope_of((5, 0, 0, 2)), (0, 0, 6))

    def test_of_a_product(self):
        for one, other in product(LITTLE[::3], repeat=2):
            parts = poly_plus(poly_times(slope_of(one), other), poly_times(one, slope_of(other)))
            self.assertEqual(slope_of(poly_times(one, other)), parts)


class AtTest(RefusalCase):
    def test_beside_the_sum(self):
        for poly, place in product(LITTLE + [GREAT, LONGEST], PLACES):
            self.assertEqual(poly_at(poly, pair(place)), pair(own_at(poly, place)))

    def test_nought_and_constants(self):
        for t in ((0, 1), (-5, 3), (10 ** 40, 7)):
            self.assertEqual(poly_at((), t), (0, 1))
            self.assertEqual(poly_at((-4,), t), (-4, 1))
        self.assertEqual(poly_at((-1, 0, 2), (1, 2)), (-1, 2))

    def test_what_is_no_fraction(self):
        self.each_refused(BadParameter, NO_FRACTIONS, poly_at, [(1, 2), None], 1)
        self.each_refused(BadParameter, NO_FRACTIONS, poly_at, [(), None], 1)


class PartedTest(RefusalCase):
    def check(self, one, other):
        quotient, rest, times = parted_by(one, other)
        exact, _ = own_division(one, other)
        self.assertEqual(times, lcm(*[number.denominator for number in exact]))
        self.assertIs(type(times), int)
        self.assertEqual(quotient, tuple(int(number * times) for number in exact))
        self.assertEqual(tuple(times * number for number in one), poly_plus(product_of(quotient, other), rest))
        self.assertLess(len(rest), len(other))
        self.assertIs(need_poly(quotient), quotient)
        self.assertIs(need_poly(rest), rest)

    def test_little_ones(self):
        for one, other in product(LITTLE, repeat=2):
            if other:
                self.check(one, other)

    def test_with_greater_numbers(self):
        drawn = Random(8)
        for _ in range(300):
            one = trimmed(drawn.randint(-30, 30) for _ in range(drawn.randint(0, 8)))
            other = trimmed([drawn.randint(-12, 12) for _ in range(drawn.randint(0, 4))] + [drawn.choice((-6, 4, 12))])
            self.check(one, other)
        self.check(GREAT, (3, 10 ** 30))
        self.check(LONGEST, (-7, 0, 6))
        self.check(LONGEST, LONGEST[::-1])

    def test_by_hand(self):
        self.assertEqual(parted_by((1, 2, 3), (1, 2)), ((1, 6), (3,), 4))
        self.assertEqual(parted_by((-1, 0, 1), (1, 1)), ((-1, 1), (), 1))
        self.assertEqual(parted_by((1, 1), (1, 0, 1)), ((), (1, 1), 1))
        self.assertEqual(parted_by((), (3, 5)), ((), (), 1))
        self.assertEqual(parted_by((1,), (2,)), ((1,), (), 2))
        self.assertEqual(parted_by((4, -6), (-4,)), ((-2, 3), (), 2))
        # Not the power of the last thing, and not what all have in common.
        self.assertEqual(parted_by((4, 4, 4), (2, 2)), ((0, 2), (4,), 1))
        self.assertEqual(parted_by((1, 0, 2), (1, -4)), ((-1, -4), (9,), 8))
        self.assertEqual(parted_by((0, 0, 6), (0, 4)), ((0, 3), (), 2))

    def test_nothing_is_parted_by_nought(self):
        for one in ((), (1,), GREAT, LONGEST):
            self.refused_value(BadPoly, (), parted_by, one, ())


class CommonTest(unittest.TestCase):
    def test_products_with_known_parts(self):
        unlike = [(-1, 2), (0, 1), (-3, 1), (1, 0, 1), (-2, 0, 1), (5, 3, 0, 1)]
        for marks in product((0, 1, 2), repeat=4):
            one = product_of((-6,), *[power_of(part, mark) for part, mark in zip(unlike, marks)])
            other = product_of((4,), *[power_of(part, mark) for part, mark in zip(unlike, marks[::-1])])
            least = [power_of(part, min(two)) for part, *two in zip(unlike, marks, marks[::-1])]
            self.assertEqual(common_part(one, other), product_of((1,), *least))

    def test_little_ones(self):
        for one, other in product(LITTLE, repeat=2):
            self.assertEqual(common_part(one, other), own_common(one, other))

    def test_it_divides_both_and_is_whole(self):
        for (one, _), (other, _) in zip(MADE, MADE[7:]):
            part = common_part(one, other)
            self.assertEqual(parted_by(one, part)[1], ())
            self.assertEqual(parted_by(other, part)[1], ())
            self.assertTrue(is_whole(part))
            self.assertGreater(part[-1], 0)
            self.assertEqual(part, common_part(other, one))

    def test_with_nought(self):
        self.assertEqual(common_part((), ()), ())
        self.assertEqual(common_part((4, -6), ()), (-2, 3))
        self.assertEqual(common_part((), (4, -6)), (-2, 3))
        self.assertEqual(common_part((4, 6, -2), ()), (-2, -3, 1))
        self.assertEqual(common_part((-5,), ()), (1,))
        self.assertEqual(common_part((), (-5,)), (1,))

    def test_constants(self):
        self.assertEqual(common_part((4,), (6,)), (1,))
        self.assertEqual(common_part((-4,), (6, 2, 8)), (1,))
        self.assertEqual(common_part((0, -3), (-3,)), (1,))
        self.assertEqual(common_part((-2, 4), (3, -6)), (-1, 2))

    def test_of_forty_one_things(self):
        part = power_of((-1, 3), 20)
        one, other = product_of(part, power_of((1, 1), 20)), product_of(part, power_of((2, 0, 5), 10))
        self.assertEqual(len(one), 41)
        self.assertEqual(common_part(one, other), part)


class PlainTest(RefusalCase):
    def test_products_with_known_parts(self):
        parts = [(-1, 2), (0, 1), (-3, 1), (1, 0, 1), (-2, 0, 1)]
        for marks in product((0, 1, 2, 3), repeat=3):
            for factor, at in product((-6, -1, 1, 4), (0, 2)):
                chosen = [part for part, mark in zip(parts[at:], marks) if mark]
                poly = product_of((factor,), *[power_of(part, mark) for part, mark in zip(parts[at:], marks)])
                sign = 1 if factor > 0 else -1
                self.assertEqual(plain_part(poly), product_of((sign,), *chosen))

    def test_the_sign_of_the_last_thing_stays(self):
        self.assertEqual(plain_part((2, -4)), (1, -2))
        self.assertEqual(plain_part((-2, 4)), (-1, 2))
        self.assertEqual(plain_part((-1, 2, -1)), (1, -1))
        self.assertEqual(plain_part((1, -2, 1)), (-1, 1))

    def test_constants(self):
        for number in (1, 2, 10 ** 40):
            self.assertEqual(plain_part((number,)), (1,))
            self.assertEqual(plain_part((-number,)), (-1,))

    def test_numbers_that_are_not_real(self):
        self.assertEqual(plain_part(power_of((1, 0, 1), 3)), (1, 0, 1))
        self.assertEqual(plain_part(product_of((-5,), (0, 0, 1), (1, 0, 1), (1, 0, 1))), (0, -1, 0, -1))
        self.assertEqual(plain_part((0,) * 40 + (9,)), (0, 1))

    def test_nothing_in_common_with_its_slopes(self):
        for poly in [poly for poly in LITTLE if poly] + [poly for poly, _ in MADE]:
            plain = plain_part(poly)
            self.assertEqual(common_part(plain, slope_of(plain)), (1,))
            self.assertTrue(is_whole(plain))
            self.assertEqual(plain[-1] > 0, poly[-1] > 0)
            self.assertEqual(parted_by(poly, plain)[1], ())
            # Each number of the POLY, at most three times one, is one of the plain part.
            self.assertEqual(parted_by(power_of(plain, 3), poly)[1], ())

    def test_nought_has_none(self):
        for call in (plain_part, sturm_row):
            self.refused_value(BadPoly, (), call, ())


class SturmTest(unittest.TestCase):
    def check(self, poly):
        row = sturm_row(poly)
        self.assertIs(type(row), tuple)
        self.assertEqual(row[0], plain_part(poly))
        if len(row[0]) == 1:
            self.assertEqual(len(row), 1)
            return
        self.assertEqual(row[1], own_whole(slope_of(row[0])))
        for one, other, third in zip(row, row[1:], row[2:]):
            rest = own_division(one, other)[1]
            self.assertEqual(third, own_whole([-number for number in rest]))
        self.assertEqual(own_division(row[-2], row[-1])[1], ())
        self.assertEqual(len(row[-1]), 1)

    def test_each_thing_by_the_two_ahead(self):
        for poly in [poly for poly in LITTLE if poly] + [poly for poly, _ in MADE] + [GREAT]:
            self.check(poly)

    def test_by_hand(self):
        self.assertEqual(sturm_row((-1, 0, 2)), ((-1, 0, 2), (0, 1), (1,)))
        self.assertEqual(sturm_row((1, 0, -2)), ((1, 0, -2), (0, -1), (-1,)))
        self.assertEqual(sturm_row((0, 1, -3, 2)), ((0, 1, -3, 2), (1, -6, 6), (-1, 2), (1,)))
        self.assertEqual(sturm_row((1, 0, 1)), ((1, 0, 1), (0, 1), (-1,)))
        # A root many times is one of the plain part once.
        self.assertEqual(sturm_row((4, -16, 16)), ((-1, 2), (1,)))

    def test_constants(self):
        for number in (1, 7, 10 ** 40):
            self.assertEqual(sturm_row((number,)), ((1,),))
            self.assertEqual(sturm_row((-number,)), ((-1,),))

    def test_straight_ones(self):
        self.assertEqual(sturm_row((-2, 6)), ((-1, 3), (1,)))
        self.assertEqual(sturm_row((2, -6)), ((1, -3), (-1,)))

    def test_of_forty_one_things(self):
        drawn = Random(1)
        self.check(tuple(drawn.randint(-9, 9) for _ in range(40)) + (3,))


class ChangesTest(RefusalCase):
    def test_signs_along_the_row(self):
        for poly in [poly for poly in LITTLE if poly] + [poly for poly, _ in MADE]:
            row = sturm_row(poly)
            for place in PLACES[:6]:
                signs = [own_at(one, place) > 0 for one in row if own_at(one, place) != 0]
                changes = sum(one != other for one, other in zip(signs, signs[1:]))
                self.assertEqual(changes_at(poly, pair(place)), changes)

    def test_by_hand(self):
        self.assertEqual([changes_at((-1, 0, 2), t) for t in ((-1, 1), (0, 1), (1, 1))], [2, 1, 0])
        # At 1/2 the first one and the third one are nought.
        self.assertEqual([changes_at((0, 1, -3, 2), t) for t in ((-1, 1), (0, 1), (1, 2), (1, 1))], [3, 2, 1, 0])
        self.assertEqual(changes_at((5,), (0, 1)), 0)

    def test_wrong_parameters(self):
        self.each_refused(BadParameter, NO_FRACTIONS, changes_at, [(1, 2), None], 1)
        for t in ((0, 1), None, (2, 4)):
            self.refused_value(BadPoly, (), changes_at, (), t)


class CountTest(RefusalCase):
    def each_count(self, poly, roots, places):
        for low, high in product(places, repeat=2):
            if low <= high:
                known = sum(low < root < high for root in roots)
                self.assertEqual(roots_between(poly, pair(low), pair(high)), known)

    def test_known_roots(self):
        for poly, roots in MADE:
            places = [Fraction(-4), Fraction(0), Fraction(1, 2), Fraction(1), Fraction(9)] + roots
            self.each_count(poly, roots, places)

    def test_roots_at_the_ends_are_not_between(self):
        poly = product_of((0, 1), (-1, 2), (-1, 1))
        self.assertEqual(roots_between(poly, (0, 1), (1, 1)), 1)
        self.assertEqual(roots_between(poly, (0, 1), (1, 2)), 0)
        self.assertEqual(roots_between(poly, (1, 2), (1, 1)), 0)
        self.assertEqual(roots_between(poly, (-1, 1), (1, 1)), 2)
        self.assertEqual(roots_between(poly, (-1, 1), (2, 1)), 3)
        self.assertEqual(roots_between(power_of(poly, 3), (0, 1), (2, 1)), 2)

    def test_roots_that_are_no_fractions(self):
        # The numbers are the roots of 1/2 and of 2, with both signs.
        poly = product_of((-1, 0, 2), (-2, 0, 1), (1, 0, 1))
        for low, high, many in (((0, 1), (1, 1), 1), ((0, 1), (2, 1), 2), ((-2, 1), (2, 1), 4), ((5, 7), (7, 5), 0),
                                ((12, 17), (17, 12), 2), ((7, 5), (17, 12), 1), ((17, 12), (3, 2), 0)):
            self.assertEqual(roots_between(poly, low, high), many)
            self.assertEqual(roots_between(power_of(poly, 4), low, high), many)

    def test_great_numbers_and_near_ones(self):
        near = Fraction(1, 3) + Fraction(1, 10 ** 40)
        poly = product_of(linear(Fraction(1, 3)), linear(near))
        self.each_count(poly, [Fraction(1, 3), near], [Fraction(0), Fraction(1, 3), near, Fraction(1), Fraction(10 ** 50)])
        middle = (near + Fraction(1, 3)) / 2
        self.each_count(poly, [Fraction(1, 3), near], [Fraction(-1), middle, Fraction(1)])

    def test_alike_ends(self):
        for poly in ((-1, 2), (1,), (-1, 0, 2), (0, 1)):
            for t in ((0, 1), (1, 2), (1, 1), (-5, 3)):
                self.assertEqual(roots_between(poly, t, t), 0)

    def test_changes_less_changes(self):
        for poly in [poly for poly in LITTLE if poly] + [poly for poly, _ in MADE]:
            for low, high in (((0, 1), (1, 1)), ((-1, 1), (1, 2)), ((1, 3), (5, 1))):
                many = changes_at(poly, low) - changes_at(poly, high) - (poly_at(poly, high) == (0, 1))
                self.assertEqual(roots_between(poly, low, high), many)

    def test_wrong_parameters(self):
        right = [(-1, 2), (0, 1), (1, 1)]
        self.each_refused(BadParameter, NO_FRACTIONS, roots_between, right, 1)
        self.each_refused(BadParameter, NO_FRACTIONS, roots_between, right, 2)
        self.refused_value(BadParameter, None, roots_between, (-1, 2), None, (2, 4))
        for low, high in (((1, 1), (0, 1)), ((1, 2), (1, 3)), ((0, 1), (-1, 10 ** 40))):
            self.refused_value(BadParameter, high, roots_between, (-1, 2), low, high)

    def test_nought_ahead_of_the_ends(self):
        for low, high in (((0, 1), (1, 1)), (None, None), ((1, 1), (0, 1)), ((2, 4), (0, 1))):
            self.refused_value(BadPoly, (), roots_between, (), low, high)


if __name__ == "__main__":
    unittest.main()
