"""Roots: numbers from 0 to 1 told by a POLY that is 0 at just this one of a stretch, or by themselves."""

from withinshapes.errors import BadParameter
from withinshapes.fractions import NOUGHT, UNIT, is_part, least_of, less
from withinshapes.kinds import is_row
from withinshapes.polys import (
    NO_POLY, common_of, count_between, is_poly, need_poly, need_some_poly, row_of, sign_of,
)
from withinshapes.search import first_inside, middle, root_stretches


def has_root_form(value):
    """Whether a value is a triple of a POLY of at most 41 things and two FRACTIONs from 0 to 1."""
    return is_row(value, 3, 3) and is_poly(value[0]) and is_part(value[1]) and is_part(value[2])


def is_root(value):
    """Whether a value is a ROOT whose POLY has at most 41 things."""
    if not has_root_form(value):
        return False
    poly, low, high = value
    if poly == NO_POLY:
        return low == high
    if not less(low, high) or sign_of(poly, low) * sign_of(poly, high) >= 0:
        return False
    return count_between(row_of(poly), low, high) == 1


def need_root(root):
    """The ROOT itself."""
    if not is_root(root):
        raise BadParameter(root)
    return root


def exactly(number):
    """The ROOT that is a FRACTION itself."""
    return (NO_POLY, number, number)


def all_roots(poly):
    """The ROOTs from 0 to 1, in order, of a POLY that is known to be right and not ()."""
    row = row_of(poly)
    found = [exactly(low) if low == high else (row[0], low, high) for low, high in root_stretches(row)]
    first = [exactly(NOUGHT)] if sign_of(poly, NOUGHT) == 0 else []
    last = [exactly(UNIT)] if sign_of(poly, UNIT) == 0 else []
    return tuple(first + found + last)


def roots_of(poly):
    """The ROOTs of a POLY that is not () from 0 to 1, in order."""
    need_some_poly(poly)
    return all_roots(poly)


def side_of(root, t):
    """-1, 0 or 1: as a ROOT's number is less than a FRACTION, the same or greater."""
    poly, low, high = root
    if low == high == t:
        return 0
    if not less(low, t):
        return 1
    if not less(t, high):
        return -1
    told = sign_of(poly, t)
    if told == 0:
        return 0
    # The sign changes at the number alone.
    return 1 if told == sign_of(poly, low) else -1


def cut(root, t):
    """A ROOT of the same number, its stretch cut at a FRACTION, if this lies in it."""
    poly, low, high = root
    if not less(low, t) or not less(t, high):
        return root
    side = side_of(root, t)
    if side == 0:
        return exactly(t)
    return (poly, t, high) if side > 0 else (poly, low, t)


def half_of(root):
    """A ROOT of the same number with half the stretch."""
    return cut(root, middle(root[1], root[2]))


def halved(root):
    """A ROOT of the same number: itself, its middle, or the half of its stretch that has the number."""
    need_root(root)
    return half_of(root)


def have_same(one, other):
    """Whether two ROOTs have the same number, each told by a POLY other than ()."""
    low = other[1] if less(one[1], other[1]) else one[1]
    high = least_of((one[2], other[2]))
    if not less(low, high):
        return False
    # The common part is 0 at neither end, and changes its sign where both do.
    part = common_of(one[0], other[0])
    return sign_of(part, low) != sign_of(part, high)


def order_of(one, other):
    """-1, 0 or 1, as compared tells, of ROOTs that are known to be right."""
    if have_same(one, other):
        return 0
    while one[0] != NO_POLY and other[0] != NO_POLY:
        if not less(other[1], one[2]):
            return -1
        if not less(one[1], other[2]):
            return 1
        one, other = half_of(one), half_of(other)
    if other[0] == NO_POLY:
        return side_of(one, other[1])
    return -side_of(other, one[1])


def compared(one, other):
    """-1, 0 or 1: as the number of the first ROOT is less, the same, greater."""
    need_root(one)
    need_root(other)
    return order_of(one, other)


def settled(poly, root):
    """A ROOT of the same number, on whose stretch a POLY that isn't 0 at the number is 0 nowhere."""
    row = row_of(poly)
    while root[0] != NO_POLY and count_between(row, root[1], root[2]) > 0:
        root = half_of(root)
    return root


def sign_at(poly, root):
    """-1, 0 or 1: as a POLY is below 0, 0 or above it at the number of a ROOT."""
    need_poly(poly)
    need_root(root)
    if root[0] == NO_POLY:
        return sign_of(poly, root[1])
    # A number of both is one of what they have in common.
    if count_between(row_of(common_of(poly, root[0])), root[1], root[2]) > 0:
        return 0
    _, low, high = settled(poly, root)
    return sign_of(poly, middle(low, high))


def first_between(one, other):
    """The first FRACTION between two ROOTs, the first one less, that are known to be right."""
    many = 1
    while True:
        found = first_inside(one[1], other[2])
        if side_of(one, found) < 0 and side_of(other, found) > 0:
            return found
        # It may be a number of the two: then only cutting there brings an end away from it.
        one, other = cut(one, found), cut(other, found)
        for _ in range(many):
            one, other = half_of(one), half_of(other)
        many = 2 * many


def between(one, other):
    """The first FRACTION, by denominators, then by numerators, strictly between two ROOTs."""
    need_root(one)
    need_root(other)
    if order_of(one, other) >= 0:
        raise BadParameter(other)
    return first_between(one, other)
