"""Turns of a shape: two lines tight at one corner, or one by itself, and the games on the way between them."""

from itertools import combinations

from withinshapes.errors import BadParameter
from withinshapes.fractions import is_part, least_terms
from withinshapes.kinds import is_int, is_pair
from withinshapes.points import whole_point
from withinshapes.polys import NO_POLY, product_of, scaled, sum_of, trimmed
from withinshapes.shapes import beyond, check_both, corners_of, end_along, need_shape
from withinshapes.squares import is_kernel, meets_rows, square_of, with_ones


def turns_of(lines):
    """The turns, ascending, of a shape that is known to be one."""
    found = [(number, number) for number, line in enumerate(lines) if is_edge(lines, line)]
    for corner in corners_of(lines):
        through = [number for number, line in enumerate(lines) if beyond(line, corner) == 0]
        found = found + [(through[one], through[other]) for one, other in combinations(range(len(through)), 2)]
    return tuple(sorted(set(found)))


def is_edge(lines, line):
    """Whether one of the lines of a shape is tight at some point of it."""
    return end_along(lines, line[0], line[1]) == (line[2], 1)


def turns(shape):
    """The tuple of the turns of the shape, ascending."""
    need_shape(shape)
    return turns_of(shape)


def is_turn(value, lines):
    """Whether a value is a turn of a shape that is known to be one."""
    return is_pair(value) and is_int(value[0]) and is_int(value[1]) and value in turns_of(lines)


def check_turn(pays, shape, turn):
    """Refuses what are no pays, no shape or no turn of it."""
    check_both(pays, shape)
    if not is_turn(turn, shape):
        raise BadParameter(turn)


def check_part(t):
    """Refuses what is no FRACTION from (0, 1) to (1, 1)."""
    if not is_part(t):
        raise BadParameter(t)


def check_kernel(pays, kernel):
    """Refuses what is no KERNEL of acts and answers of the pays."""
    if not is_kernel(kernel, len(pays), len(pays[0])):
        raise BadParameter(kernel)


def number_on_way(pay, one, other):
    """The POLY of the number of a pay on the way from one line to another one."""
    point = whole_point(pay)
    start = beyond(one, point)
    return trimmed([start, beyond(other, point) - start])


def game_on_way(pays, lines, turn):
    """The turn's game, of what is known to be right."""
    one, other = lines[turn[0]], lines[turn[1]]
    return tuple([tuple([number_on_way(pay, one, other) for pay in act]) for act in pays])


def turning(pays, shape, turn):
    """The turn's game: for each act a tuple of a POLY for each answer."""
    check_turn(pays, shape, turn)
    return game_on_way(pays, shape, turn)


def rows_at(game, t):
    """The numbers of a turn's game at t, times t's second integer: integers."""
    above, below = t
    return [[sum([number * power for number, power in zip(poly, (below, above))]) for poly in act] for act in game]


def game_of_rows(rows, t):
    """The GAME at t of the numbers that rows_at tells."""
    return tuple([tuple([least_terms(number, t[1]) for number in row]) for row in rows])


def game_at(pays, shape, turn, t):
    """The game of the turn at T = t."""
    check_turn(pays, shape, turn)
    check_part(t)
    return game_of_rows(rows_at(game_on_way(pays, shape, turn), t), t)


def poly_determinant(square):
    """The determinant of a square of POLYs."""
    if len(square) == 1:
        return square[0][0]
    total = NO_POLY
    sign = 1
    for place, poly in enumerate(square[0]):
        rest = [row[:place] + row[place + 1:] for row in square[1:]]
        total = sum_of(total, product_of(scaled(poly, sign), poly_determinant(rest)))
        sign = -sign
    return total


def sum_along(game, acts, weights, answer):
    """The sum over acts of weight times game for an answer, as a POLY."""
    total = NO_POLY
    for act, weight in zip(acts, weights):
        total = sum_of(total, product_of(weight, game[act][answer]))
    return total


def polys_of(game, kernel):
    """(WEIGHTS, SUMS) of a kernel in a turn's game."""
    acts = kernel[0]
    weights = tuple([poly_determinant(changed) for changed in with_ones(square_of(game, kernel), (1,))])
    sums = tuple([sum_along(game, acts, weights, answer) for answer in range(len(game[0]))])
    return (weights, sums)


def kernel_polys(pays, shape, turn, kernel):
    """(WEIGHTS, SUMS): a POLY for each act of the kernel, and one for each answer of the pays."""
    check_turn(pays, shape, turn)
    check_kernel(pays, kernel)
    return polys_of(game_on_way(pays, shape, turn), kernel)


def kernel_meets(pays, shape, turn, kernel, t):
    """Whether the kernel meets the turn's game at t."""
    check_turn(pays, shape, turn)
    check_kernel(pays, kernel)
    check_part(t)
    return meets_rows(rows_at(game_on_way(pays, shape, turn), t), kernel)
