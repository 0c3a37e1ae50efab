"""Pays and shapes made of others: mapped, moved, put together, parts of them."""

from math import gcd

from withinshapes.errors import BadParameter, BadShape, TooGreat
from withinshapes.kinds import MOST_ACTS, MOST_ANSWERS, is_int_within, is_number_set, is_pair
from withinshapes.points import MOST_PAID, need_pays
from withinshapes.shapes import MOST_IN_LINE, MOST_LINES, need_shape, paper_of, turned_by

MOST_IN_MATRIX = 10
MOST_SHIFT = 100


def is_whole_pair(value, most):
    """Whether a value is a pair of integers from -most to most."""
    return is_pair(value) and all([is_int_within(number, -most, most) for number in value])


def check_matrix(matrix):
    """Refuses what is no MATRIX."""
    if not is_pair(matrix) or not all([is_whole_pair(row, MOST_IN_MATRIX) for row in matrix]):
        raise BadParameter(matrix)
    if turned_by(matrix[0], matrix[1]) == 0:
        raise BadParameter(matrix)


def check_shift(shift):
    """Refuses what is no SHIFT."""
    if not is_whole_pair(shift, MOST_SHIFT):
        raise BadParameter(shift)


def check_lot(lot, many):
    """Refuses what is no SET, other than (), of numbers of so many things."""
    if not is_number_set(lot, many - 1) or len(lot) == 0:
        raise BadParameter(lot)


def fitting_pays(pays):
    """The PAYS themselves, if no number is beyond 100."""
    if max([abs(number) for act in pays for pay in act for number in pay]) > MOST_PAID:
        raise TooGreat(MOST_PAID)
    return pays


def fitting_lines(lines):
    """The lines themselves, if no number is beyond 1000."""
    if max([abs(number) for line in lines for number in line]) > MOST_IN_LINE:
        raise TooGreat(MOST_IN_LINE)
    return lines


def mapped_pair(right, up, matrix):
    """The pair that a matrix maps a pair of integers to."""
    (p, q), (r, s) = matrix
    return (p * right + q * up, r * right + s * up)


def mapped(pays, matrix):
    """The PAYS with each pay mapped."""
    need_pays(pays)
    check_matrix(matrix)
    return fitting_pays(tuple([tuple([mapped_pair(right, up, matrix) for right, up in act]) for act in pays]))


def mapped_line(line, matrix):
    """The line that lets the mapped points of those that a line lets, without a common divisor above 1."""
    a, b, c = line
    (p, q), (r, s) = matrix
    below = turned_by(matrix[0], matrix[1])
    # Mapped back a point is divided by the determinant, whose sign turns the line about.
    sign = 1 if below > 0 else -1
    numbers = [sign * (a * s - b * r), sign * (b * p - a * q), c * abs(below)]
    divisor = gcd(numbers[0], numbers[1], numbers[2])
    return tuple([number // divisor for number in numbers])


def mapped_shape(shape, matrix):
    """The SHAPE whose points are the mapped points of the shape."""
    need_shape(shape)
    check_matrix(matrix)
    return fitting_lines(tuple([mapped_line(line, matrix) for line in shape]))


def moved(pays, shift):
    """The PAYS with a shift added to each pay."""
    need_pays(pays)
    check_shift(shift)
    return fitting_pays(tuple([tuple([(right + shift[0], up + shift[1]) for right, up in act]) for act in pays]))


def moved_shape(shape, shift):
    """The SHAPE whose points are the points of the shape, each with a shift added."""
    need_shape(shape)
    check_shift(shift)
    return fitting_lines(tuple([(a, b, c + a * shift[0] + b * shift[1]) for a, b, c in shape]))


def check_two(pays, other):
    """Refuses what are no pays, one or the other."""
    need_pays(pays)
    need_pays(other)


def either_acts(pays, other):
    """The PAYS with the acts of both, that have as many answers."""
    check_two(pays, other)
    if len(pays[0]) != len(other[0]):
        raise BadParameter(other)
    if len(pays) + len(other) > MOST_ACTS:
        raise TooGreat(MOST_ACTS)
    return pays + other


def either_answers(pays, other):
    """The PAYS with, act by act, the answers of both, that have as many acts."""
    check_two(pays, other)
    if len(pays) != len(other):
        raise BadParameter(other)
    if len(pays[0]) + len(other[0]) > MOST_ANSWERS:
        raise TooGreat(MOST_ANSWERS)
    return tuple([one + more for one, more in zip(pays, other)])


def some_acts(pays, lot):
    """The PAYS with the acts whose numbers are in the lot."""
    need_pays(pays)
    check_lot(lot, len(pays))
    return tuple([pays[act] for act in lot])


def some_answers(pays, lot):
    """The PAYS with the answers whose numbers are in the lot."""
    need_pays(pays)
    check_lot(lot, len(pays[0]))
    return tuple([tuple([act[answer] for answer in lot]) for act in pays])


def both_shapes(shape, other):
    """The SHAPE with the lines of both, each only where it stands first."""
    need_shape(shape)
    need_shape(other)
    lines = []
    for line in shape + other:
        if line not in lines:
            lines.append(line)
    if len(lines) > MOST_LINES:
        raise TooGreat(MOST_LINES)
    if paper_of(lines) is not None:
        raise BadShape(())
    return tuple(lines)


def some_lines(shape, lot):
    """The shape of the lines whose numbers are in the lot."""
    need_shape(shape)
    check_lot(lot, len(shape))
    return tuple([shape[number] for number in lot])
