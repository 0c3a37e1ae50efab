"""Squares of games: KERNELs, as many acts as answers, their weights and their DICE."""

from itertools import combinations
from math import lcm

from withinshapes.errors import BadGame, BadParameter
from withinshapes.fractions import NOUGHT, is_fraction, least_terms
from withinshapes.kinds import MOST_ACTS, MOST_ANSWERS, is_int_within, is_number_set, is_pair, wrong_place


def check_game(game):
    """Refuses what is no GAME."""
    place = wrong_place(game, is_fraction)
    if place is not None:
        raise BadGame(place)


def kernels_of(acts, answers):
    """The tuple of all KERNELs of so many acts and answers."""
    return tuple([
        (some, others)
        for size in range(1, min(acts, answers) + 1)
        for some in combinations(range(acts), size)
        for others in combinations(range(answers), size)
    ])


def kernels(acts, answers):
    """The tuple of all KERNELs of so many acts and answers, by size, then as Python compares."""
    if not is_int_within(acts, 1, MOST_ACTS):
        raise BadParameter(acts)
    if not is_int_within(answers, 1, MOST_ANSWERS):
        raise BadParameter(answers)
    return kernels_of(acts, answers)


def is_kernel(value, acts, answers):
    """Whether a value is a KERNEL of so many acts and answers."""
    if not is_pair(value):
        return False
    some, others = value
    if not is_number_set(some, acts - 1) or not is_number_set(others, answers - 1):
        return False
    return len(some) == len(others) and len(some) >= 1


def whole_rows(game):
    """The game's numbers times one integer above nought that makes all of them integers; and it."""
    factor = 1
    for act in game:
        for number in act:
            factor = lcm(factor, number[1])
    rows = [[above * (factor // below) for above, below in act] for act in game]
    return (rows, factor)


def exchanged(rows):
    """The rows with acts and answers exchanged."""
    return [list(column) for column in zip(*rows)]


def square_of(rows, kernel):
    """The part of the rows of a kernel's acts and answers."""
    acts, answers = kernel
    return [[rows[act][answer] for answer in answers] for act in acts]


def determinant(square):
    """The determinant of a square of integers."""
    if len(square) == 1:
        return square[0][0]
    total = 0
    sign = 1
    for place, number in enumerate(square[0]):
        rest = [row[:place] + row[place + 1:] for row in square[1:]]
        total += sign * number * determinant(rest)
        sign = -sign
    return total


def with_ones(square, one):
    """For each row the square with a row of ones in its place."""
    ones = [one] * len(square)
    return [square[:place] + [ones] + square[place + 1:] for place in range(len(square))]


def weights_of(square):
    """For each row the sum of its cofactors."""
    # By the row's cofactors a row of ones in its place comes to just their sum.
    return [determinant(changed) for changed in with_ones(square, 1)]


def upright(weights):
    """Weights of one sign as weights of at least 0; None if both signs are there, or all are 0."""
    turned = [-weight for weight in weights] if max(weights) <= 0 else weights
    return turned if min(turned) >= 0 and max(turned) > 0 else None


def drawn_weights(rows, kernel):
    """The kernel's weights as weights of at least 0, None if they tell no DICE."""
    return upright(weights_of(square_of(rows, kernel)))


def spread(weights, numbers, many):
    """The weights divided by their sum, at these numbers of so many; nought at all others."""
    total = sum(weights)
    shares = [NOUGHT] * many
    for number, weight in zip(numbers, weights):
        shares[number] = least_terms(weight, total)
    return tuple(shares)


def sums_over(rows, numbers, weights):
    """For each column the sum over the rows of these numbers, each times its weight."""
    columns = exchanged([rows[number] for number in numbers])
    return [sum([one * other for one, other in zip(column, weights)]) for column in columns]


def kernel_dice(game, kernel):
    """The DICE of a kernel of the game, None if its weights tell none."""
    check_game(game)
    if not is_kernel(kernel, len(game), len(game[0])):
        raise BadParameter(kernel)
    rows, _ = whole_rows(game)
    weights = drawn_weights(rows, kernel)
    if weights is None:
        return None
    return spread(weights, kernel[0], len(game))


def meets_rows(rows, kernel):
    """Whether a kernel meets a game of integers."""
    weights = drawn_weights(rows, kernel)
    return weights is not None and max(sums_over(rows, kernel[0], weights)) <= 0


def first_kernel(game):
    """The first kernel that meets the game, None if none does."""
    check_game(game)
    rows, _ = whole_rows(game)
    for kernel in kernels_of(len(game), len(game[0])):
        if meets_rows(rows, kernel):
            return kernel
    return None
