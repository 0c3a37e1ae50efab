"""Fractions: pairs (N, D) of integers in least terms, D from 1 on."""

from math import gcd

from withinshapes.errors import BadParameter
from withinshapes.kinds import is_int, is_pair, is_row

NOUGHT = (0, 1)
UNIT = (1, 1)


def is_fraction(value):
    """Whether a value is a FRACTION."""
    if not is_pair(value):
        return False
    above, below = value
    if not is_int(above) or not is_int(below):
        return False
    return below >= 1 and gcd(above, below) == 1


def is_part(value):
    """Whether a value is a FRACTION from (0, 1) to (1, 1)."""
    return is_fraction(value) and 0 <= value[0] <= value[1]


def need_fraction(value):
    """The FRACTION itself."""
    if not is_fraction(value):
        raise BadParameter(value)
    return value


def least_terms(above, below):
    """The FRACTION of two integers, the second one not 0."""
    divisor = gcd(above, below)
    if below < 0:
        divisor = -divisor
    return (above // divisor, below // divisor)


def fraction(above, below):
    """The FRACTION of two integers; below may be less than 0."""
    if not is_int(above):
        raise BadParameter(above)
    if not is_int(below) or below == 0:
        raise BadParameter(below)
    return least_terms(above, below)


def plus(one, other):
    """The sum of two FRACTIONs."""
    need_fraction(one)
    need_fraction(other)
    return least_terms(one[0] * other[1] + other[0] * one[1], one[1] * other[1])


def minus(one, other):
    """The first FRACTION less the second one."""
    need_fraction(one)
    need_fraction(other)
    return least_terms(one[0] * other[1] - other[0] * one[1], one[1] * other[1])


def times(one, other):
    """The product of two FRACTIONs."""
    need_fraction(one)
    need_fraction(other)
    return least_terms(one[0] * other[0], one[1] * other[1])


def over(one, other):
    """The first FRACTION divided by the second one."""
    need_fraction(one)
    need_fraction(other)
    if other == NOUGHT:
        raise BadParameter(other)
    return least_terms(one[0] * other[1], one[1] * other[0])


def less(one, other):
    """Whether the first FRACTION is less than the second one."""
    need_fraction(one)
    need_fraction(other)
    return one[0] * other[1] < other[0] * one[1]


def least_of(values):
    """The least one of some FRACTIONs, of at least one."""
    found = values[0]
    for value in values:
        if less(value, found):
            found = value
    return found


def are_shares(value, many):
    """Whether a value is a tuple of so many FRACTIONs from nought on, together (1, 1)."""
    if not is_row(value, many, many):
        return False
    total = NOUGHT
    for share in value:
        if not is_fraction(share) or share[0] < 0:
            return False
        total = plus(total, share)
    return total == UNIT


def weighed(values, shares):
    """The sum of FRACTIONs, each times its share."""
    total = NOUGHT
    for value, share in zip(values, shares):
        total = plus(total, times(value, share))
    return total
