"""Steering: DICE by which the mean comes no farther from the shape, whatever is answered."""

from withinshapes.ends import nearest_of
from withinshapes.errors import BadDice, BadParameter, NoDice
from withinshapes.fractions import NOUGHT, UNIT, are_shares, least_terms, less, minus, plus, times
from withinshapes.games import meets, met
from withinshapes.kinds import MOST_ACTS, is_int_within, is_row, is_tuple
from withinshapes.points import (
    ORIGIN, are_answers, greatest_gap, means_of, need_pays, need_point, pay_at, point_plus, point_times, squared,
)
from withinshapes.shapes import check_both
from withinshapes.squares import first_kernel, kernel_dice

MOST_ROUNDS = 1000000
MOST_ANSWERED = 200
MOST_LATE = 10


def check_mean(pays, shape, mean):
    """Refuses what are no pays, no shape or no POINT."""
    check_both(pays, shape)
    need_point(mean)


def pull(away, near, pay):
    """The pull of a pair of integers: away is the mean less the shape's nearest point."""
    across = times(away[0], minus((pay[0], 1), near[0]))
    up = times(away[1], minus((pay[1], 1), near[1]))
    return plus(across, up)


def pulls(pays, mean, near):
    """The GAME of the pulls of all pays."""
    away = (minus(mean[0], near[0]), minus(mean[1], near[1]))
    return tuple([tuple([pull(away, near, pay) for pay in act]) for act in pays])


def first_alone(acts):
    """The DICE by which the first act alone is drawn."""
    return (UNIT,) + (NOUGHT,) * (acts - 1)


def dice_for(pays, lines, mean):
    """The DICE for a mean, of what is known to be right."""
    near = nearest_of(lines, mean)
    if near == mean:
        return first_alone(len(pays))
    game = pulls(pays, mean, near)
    kernel = first_kernel(game)
    if kernel is None:
        raise NoDice(met(game)[1])
    return kernel_dice(game, kernel)


def exact_dice(pays, shape, mean):
    """The first KERNEL's DICE by which no answer's pay has a pull above nought."""
    check_mean(pays, shape, mean)
    return dice_for(pays, shape, mean)


def is_pulled(pays, shape, mean, value):
    """Whether a value is DICE by which no answer's pay has a pull above nought."""
    check_mean(pays, shape, mean)
    # For a mean in the shape all pulls are nought.
    return are_shares(value, len(pays)) and meets(pulls(pays, mean, nearest_of(shape, mean)), value)


def first_greatest(values):
    """The number of the first one of the greatest FRACTIONs."""
    found = 0
    for number, value in enumerate(values):
        if less(values[found], value):
            found = number
    return found


def made_small(dice, rounds):
    """DICE with small numbers: multiples of a power of two, but for what is left to the greatest one."""
    power = 8
    while power < 8 * rounds:
        power = 2 * power
    greatest = first_greatest(dice)
    parts = [above * power // below for above, below in dice]
    parts[greatest] = power - sum(parts[:greatest]) - sum(parts[greatest + 1:])
    return tuple([least_terms(part, power) for part in parts])


def rounded(dice, rounds):
    """DICE near the told ones with small numbers, for so many rounds behind."""
    if not is_row(dice, 1, MOST_ACTS) or not are_shares(dice, len(dice)):
        raise BadDice(dice)
    if not is_int_within(rounds, 1, MOST_ROUNDS):
        raise BadParameter(rounds)
    return made_small(dice, rounds)


def check_answers(pays, shape, answers):
    """Refuses what are no pays, no shape or no tuple of at most 200 numbers of answers."""
    check_both(pays, shape)
    if not are_answers(pays, answers, MOST_ANSWERED):
        raise BadParameter(answers)


def steer(played, lines, late):
    """(DICES, MEANS) by the told rule for pairs of a round's pays and answer, of what is known to be right."""
    total = ORIGIN
    dices = []
    means = []
    for rounds, (pays, answer) in enumerate(played):
        dice = first_alone(len(pays))
        if rounds > late:
            dice = made_small(dice_for(pays, lines, means[rounds - late - 1]), rounds)
        total = point_plus(total, pay_at(pays, dice, answer))
        dices.append(dice)
        means.append(point_times(total, (1, rounds + 1)))
    return (tuple(dices), tuple(means))


def steered(pays, shape, answers):
    """(DICES, MEANS): the DICE of each round by the mean so far, and the mean behind it."""
    check_answers(pays, shape, answers)
    return steer([(pays, answer) for answer in answers], shape, 0)


def steered_late(pays, shape, answers, late):
    """(DICES, MEANS) where the last so many rounds are not known yet."""
    check_answers(pays, shape, answers)
    if not is_int_within(late, 0, MOST_LATE):
        raise BadParameter(late)
    return steer([(pays, answer) for answer in answers], shape, late)


def guarantee(pays, rounds, late):
    """The squared distance that the mean behind so many rounds does not pass, if the shape is led."""
    need_pays(pays)
    if not is_int_within(rounds, 1, MOST_ROUNDS):
        raise BadParameter(rounds)
    if not is_int_within(late, 0, MOST_LATE):
        raise BadParameter(late)
    return least_terms((5 + 4 * late) * greatest_gap(pays), rounds)


def is_near(pays, lines, mean, rounds):
    """Whether a mean is within the guarantee."""
    return not less(guarantee(pays, rounds, 0), squared(mean, nearest_of(lines, mean)))


def is_steering(pays, shape, answers, value):
    """Whether a value is DICE for each answer by which the mean is within the guarantee behind each round."""
    check_answers(pays, shape, answers)
    if not is_tuple(value) or len(value) != len(answers):
        return False
    if not all([are_shares(dice, len(pays)) for dice in value]):
        return False
    means = means_of(pays, value, answers)
    return all([is_near(pays, shape, mean, number + 1) for number, mean in enumerate(means)])
