"""Points, and what is paid: PAYS, DICE, ODDS, the pay of a round, means."""

from withinshapes.errors import BadDice, BadOdds, BadParameter, BadPays, BadPoint
from withinshapes.fractions import are_shares, is_fraction, minus, need_fraction, plus, times, weighed
from withinshapes.kinds import is_int_within, is_pair, is_row, is_tuple, wrong_place

ORIGIN = ((0, 1), (0, 1))
MOST_PAID = 100


def is_point(value):
    """Whether a value is a POINT."""
    return is_pair(value) and is_fraction(value[0]) and is_fraction(value[1])


def need_point(point):
    """The POINT itself."""
    if not is_point(point):
        raise BadPoint(point)
    return point


def point_plus(one, other):
    """The sum of two POINTs."""
    need_point(one)
    need_point(other)
    return (plus(one[0], other[0]), plus(one[1], other[1]))


def point_times(point, factor):
    """A POINT times a FRACTION."""
    need_point(point)
    need_fraction(factor)
    return (times(point[0], factor), times(point[1], factor))


def squared(one, other):
    """The squared distance of two POINTs."""
    need_point(one)
    need_point(other)
    across = minus(one[0], other[0])
    up = minus(one[1], other[1])
    return plus(times(across, across), times(up, up))


def mean_of(points):
    """The sum of a tuple of POINTs, divided by their number."""
    if not is_tuple(points) or len(points) == 0:
        raise BadParameter(points)
    for point in points:
        need_point(point)
    total = ORIGIN
    for point in points:
        total = point_plus(total, point)
    return point_times(total, (1, len(points)))


def is_pay(value):
    """Whether a value is one of the pairs that PAYS consist of."""
    if not is_pair(value):
        return False
    return all([is_int_within(number, -MOST_PAID, MOST_PAID) for number in value])


def need_pays(pays):
    """The PAYS themselves."""
    place = wrong_place(pays, is_pay)
    if place is not None:
        raise BadPays(place)
    return pays


def need_dice(pays, dice):
    """The DICE themselves: a share for each act."""
    need_pays(pays)
    if not are_shares(dice, len(pays)):
        raise BadDice(dice)
    return dice


def need_odds(pays, odds):
    """The ODDS themselves: a share for each answer."""
    need_pays(pays)
    if not are_shares(odds, len(pays[0])):
        raise BadOdds(odds)
    return odds


def are_answers(pays, value, most):
    """Whether a value is a tuple of at most so many numbers of answers of the pays."""
    last = len(pays[0]) - 1
    return is_row(value, 0, most) and all([is_int_within(answer, 0, last) for answer in value])


def whole_point(pay):
    """The POINT of a pair of integers."""
    return ((pay[0], 1), (pay[1], 1))


def weighed_points(points, shares):
    """The sum of POINTs, each times its share."""
    across = weighed([point[0] for point in points], shares)
    up = weighed([point[1] for point in points], shares)
    return (across, up)


def pay_at(pays, dice, answer):
    """The pay of a round, of what is already known to be right."""
    return weighed_points([whole_point(act[answer]) for act in pays], dice)


def pay_of(pays, dice, answer):
    """The pay of a round: the POINT of the DICE and the answer."""
    need_dice(pays, dice)
    if not is_int_within(answer, 0, len(pays[0]) - 1):
        raise BadParameter(answer)
    return pay_at(pays, dice, answer)


def pay_by(pays, dice, odds):
    """The mean of the pays of the DICE by the ODDS."""
    need_dice(pays, dice)
    need_odds(pays, odds)
    answers = range(len(odds))
    return weighed_points([pay_at(pays, dice, answer) for answer in answers], odds)


def means_of(pays, dices, answers):
    """Behind each round the mean of the pays so far."""
    total = ORIGIN
    means = []
    for dice, answer in zip(dices, answers):
        total = point_plus(total, pay_at(pays, dice, answer))
        means.append(point_times(total, (1, len(means) + 1)))
    return tuple(means)


def squared_gap(one, other):
    """The squared distance of two pairs of integers."""
    return (one[0] - other[0]) ** 2 + (one[1] - other[1]) ** 2


def greatest_gap(pays):
    """G: the greatest squared distance of two of the pays, an integer."""
    need_pays(pays)
    told = [pay for act in pays for pay in act]
    return max([squared_gap(one, other) for one in told for other in told])
