"""Stretches (LOW, HIGH) of numbers: halved, cut, looked through for roots and for the first FRACTION."""

from withinshapes.fractions import NOUGHT, UNIT, least_terms
from withinshapes.polys import count_between, sign_of


def middle(low, high):
    """The FRACTION in the middle of two."""
    return least_terms(low[0] * high[1] + high[0] * low[1], 2 * low[1] * high[1])


def first_inside(low, high):
    """The first FRACTION, by denominators, then by numerators, between a FRACTION from nought on and a higher one."""
    (above, below), (top, bottom) = low, high
    before, last = (0, 1), (1, 0)
    while True:
        part = above // below
        # The last step goes to the next integer, if this is below what is left of the higher one.
        step = part + 1 if (part + 1) * bottom < top else part
        before, last = last, (last[0] * step + before[0], last[1] * step + before[1])
        if step > part:
            return last
        above, below, top, bottom = bottom, top - part * bottom, below, above - part * below


def root_stretches(row):
    """The stretches from 0 to 1, in order, with one root each of the POLY of Sturm's row; (M, M) at a middle."""
    found = []
    waiting = [(NOUGHT, UNIT)]
    while waiting:
        low, high = waiting.pop()
        many = count_between(row, low, high)
        if low == high or many == 1 and sign_of(row[0], low) != 0 and sign_of(row[0], high) != 0:
            found.append((low, high))
        elif many > 0:
            between = middle(low, high)
            waiting.append((between, high))
            if sign_of(row[0], between) == 0:
                waiting.append((between, between))
            waiting.append((low, between))
    return found
