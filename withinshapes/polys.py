"""Polynomials: tuples of integers, the one for T to the power 0 first, the last one not 0; () is nought."""

from math import gcd

from withinshapes.errors import BadParameter, BadPoly
from withinshapes.fractions import least_terms, less, need_fraction
from withinshapes.kinds import is_int, is_row

MOST_THINGS = 41
NO_POLY = ()


def is_poly(value):
    """Whether a value is a POLY of at most 41 things."""
    if not is_row(value, 0, MOST_THINGS) or not all([is_int(number) for number in value]):
        return False
    return len(value) == 0 or value[-1] != 0


def need_poly(poly):
    """The POLY itself."""
    if not is_poly(poly):
        raise BadPoly(poly)
    return poly


def need_some_poly(poly):
    """The POLY itself, which must not be ()."""
    need_poly(poly)
    if poly == NO_POLY:
        raise BadPoly(poly)
    return poly


def trimmed(numbers):
    """The POLY of a list of integers, perhaps with noughts behind."""
    many = len(numbers)
    while many > 0 and numbers[many - 1] == 0:
        many -= 1
    return tuple(numbers[:many])


def scaled(poly, factor):
    """The POLY times an integer other than 0."""
    return tuple([number * factor for number in poly])


def sum_of(one, other):
    """The sum of two POLYs of any length."""
    longer, shorter = (one, other) if len(one) >= len(other) else (other, one)
    numbers = list(longer)
    for place, number in enumerate(shorter):
        numbers[place] += number
    return trimmed(numbers)


def product_of(one, other):
    """The product of two POLYs of any length."""
    numbers = [0] * (len(one) + len(other))
    for place, number in enumerate(one):
        for further, factor in enumerate(other):
            numbers[place + further] += number * factor
    return trimmed(numbers)


def poly_plus(one, other):
    """The sum of two POLYs."""
    need_poly(one)
    need_poly(other)
    return sum_of(one, other)


def poly_minus(one, other):
    """The first POLY less the second one."""
    need_poly(one)
    need_poly(other)
    return sum_of(one, scaled(other, -1))


def poly_times(one, other):
    """The product of two POLYs."""
    need_poly(one)
    need_poly(other)
    return product_of(one, other)


def slopes(poly):
    """The POLY of the slopes, of a POLY of any length."""
    return tuple([place * number for place, number in enumerate(poly)][1:])


def slope_of(poly):
    """The POLY of the slopes of a POLY."""
    need_poly(poly)
    return slopes(poly)


def raised_at(poly, t):
    """What a POLY is at t, times t's second integer once for each thing of the POLY; and this power."""
    above, below = t
    total = 0
    power = 1
    for number in reversed(poly):
        total = total * above + number * power
        power *= below
    return (total, power)


def sign_of(poly, t):
    """-1, 0 or 1: as a POLY is below 0, 0 or above it at a FRACTION."""
    total, _ = raised_at(poly, t)
    if total == 0:
        return 0
    return 1 if total > 0 else -1


def poly_at(poly, t):
    """What a POLY is at a FRACTION."""
    need_poly(poly)
    need_fraction(t)
    total, power = raised_at(poly, t)
    return least_terms(total * t[1], power)


def whole(poly):
    """The POLY divided by the greatest integer that divides all its things."""
    divisor = 0
    for number in poly:
        divisor = gcd(divisor, number)
    return tuple([number // divisor for number in poly])


def division(one, other):
    """(QUOTIENT, REST, TIMES) of a POLY by another one that is not ()."""
    last = len(other) - 1
    rest = list(one)
    quotient = [0] * max(len(one) - last, 0)
    times = 1
    for place in reversed(range(len(quotient))):
        # The least factor by which this thing of the quotient is an integer, too.
        factor = abs(other[last]) // gcd(other[last], rest[place + last])
        if factor > 1:
            times *= factor
            quotient = [number * factor for number in quotient]
            rest = [number * factor for number in rest]
        part = rest[place + last] // other[last]
        quotient[place] = part
        for further, number in enumerate(other):
            rest[place + further] -= part * number
    return (trimmed(quotient), trimmed(rest), times)


def parted_by(one, other):
    """(QUOTIENT, REST, TIMES): TIMES times one is QUOTIENT times other, plus REST."""
    need_poly(one)
    need_some_poly(other)
    return division(one, other)


def common_of(one, other):
    """The common part of two POLYs."""
    while other != NO_POLY:
        _, rest, _ = division(one, other)
        one, other = other, whole(rest)
    part = whole(one)
    return scaled(part, -1) if part and part[-1] < 0 else part


def common_part(one, other):
    """The POLY of greatest degree that divides both, whole, its last thing above 0; () if both are ()."""
    need_poly(one)
    need_poly(other)
    return common_of(one, other)


def plain_of(poly):
    """The plain part of a POLY that is not ()."""
    quotient, _, _ = division(poly, common_of(poly, slopes(poly)))
    return whole(quotient)


def plain_part(poly):
    """The POLY that is 0 at the same numbers, each once, whole, the sign of its last thing kept."""
    need_some_poly(poly)
    return plain_of(poly)


def rests_from(first):
    """The row from a whole POLY on: its slopes, then what is left by each of the one ahead of it, turned about."""
    row = [first]
    following = whole(slopes(first))
    while following != NO_POLY:
        row.append(following)
        _, rest, _ = division(row[-2], following)
        following = scaled(whole(rest), -1)
    return tuple(row)


def row_of(poly):
    """Sturm's row of a POLY that is not ()."""
    row = rests_from(whole(poly))
    # The last one is what a POLY and its slopes have in common: if it is a constant the POLY is plain.
    return row if len(row[-1]) == 1 else rests_from(plain_of(poly))


def sturm_row(poly):
    """Sturm's row: the plain part, its slopes, and what is left by each of the one ahead of it."""
    need_some_poly(poly)
    return row_of(poly)


def changes_in(row, t):
    """How often signs change along a row of POLYs at a FRACTION, noughts left out."""
    signs = [sign_of(poly, t) for poly in row]
    told = [sign for sign in signs if sign != 0]
    return len([place for place in range(len(told) - 1) if told[place] != told[place + 1]])


def changes_at(poly, t):
    """How often signs change along Sturm's row of a POLY at a FRACTION."""
    need_some_poly(poly)
    need_fraction(t)
    return changes_in(row_of(poly), t)


def count_between(row, low, high):
    """How many unlike numbers between low and a higher FRACTION the POLY of Sturm's row is 0 at."""
    many = changes_in(row, low) - changes_in(row, high)
    return many - 1 if sign_of(row[0], high) == 0 else many


def roots_between(poly, low, high):
    """At how many unlike numbers between low and high the POLY is 0."""
    need_some_poly(poly)
    need_fraction(low)
    need_fraction(high)
    if less(high, low):
        raise BadParameter(high)
    if low == high:
        return 0
    return count_between(row_of(poly), low, high)
