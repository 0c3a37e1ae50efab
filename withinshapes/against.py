"""Dice against odds: DICE whose mean pay lies in the shape, or a wall between it and all acts' means."""

from itertools import combinations
from math import lcm

from withinshapes.ends import lets_all, nearest_of
from withinshapes.fractions import NOUGHT, UNIT, are_shares, less, minus, over, plus, times
from withinshapes.keeping import above_wall, act_means, is_paper
from withinshapes.kinds import is_pair, is_text
from withinshapes.points import need_odds, point_plus, point_times, squared, weighed_points
from withinshapes.shapes import all_let, check_both, corners_of


def check_odds(pays, shape, odds):
    """Refuses what are no pays, no shape or no ODDS."""
    check_both(pays, shape)
    need_odds(pays, odds)


def way(start, end):
    """The POINT that leads from one POINT to another one, if it is added."""
    return (minus(end[0], start[0]), minus(end[1], start[1]))


def along(one, other):
    """The sum of both products of the things of two POINTs."""
    return plus(times(one[0], other[0]), times(one[1], other[1]))


def area(one, other, third):
    """Twice the area of a triangle, below nought if it is gone round the other way."""
    first, second = way(one, other), way(one, third)
    return minus(times(first[0], second[1]), times(first[1], second[0]))


def shared_out(weights, acts, many):
    """The DICE with these weights, divided by their sum, for these acts of so many; nought for all others."""
    total = NOUGHT
    for weight in weights:
        total = plus(total, weight)
    dice = [NOUGHT] * many
    for act, weight in zip(acts, weights):
        dice[act] = over(weight, total)
    return tuple(dice)


def upright_weights(weights):
    """Weights of one sign as FRACTIONs from nought on; None if both signs are there."""
    signs = [above for above, _ in weights]
    if min(signs) < 0 < max(signs):
        return None
    return [(abs(above), below) for above, below in weights]


def dice_on_segments(means, lines):
    """DICE of two acts each, for the points between their means at which a line is tight."""
    found = []
    for acts in combinations(range(len(means)), 2):
        for line in lines:
            near, far = [above_wall(line, means[act]) for act in acts]
            # A mean on the line is looked at by itself.
            if near[0] * far[0] < 0:
                weights = upright_weights([far, (-near[0], near[1])])
                found.append(shared_out(weights, acts, len(means)))
    return found


def dice_at_corners(means, lines):
    """DICE of three acts each, for the corners of the shape between their means."""
    found = []
    for acts in combinations(range(len(means)), 3):
        one, other, third = [means[act] for act in acts]
        # Means in a row have no corner between them that segments don't have.
        if area(one, other, third) != NOUGHT:
            for corner in corners_of(lines):
                weights = [area(corner, other, third), area(one, corner, third), area(one, other, corner)]
                upright = upright_weights(weights)
                if upright is not None:
                    found.append(shared_out(upright, acts, len(means)))
    return found


def dice_in(means, lines):
    """DICE by which the acts' means come to a point of the shape, None if there are none."""
    alone = [shared_out([UNIT], [act], len(means)) for act in range(len(means))]
    for dice in alone + dice_on_segments(means, lines) + dice_at_corners(means, lines):
        if all_let(lines, weighed_points(means, dice)):
            return dice
    return None


def foot_between(point, start, end):
    """The POINT nearest to a point of those strictly between two others, None if an end is nearer."""
    whole = way(start, end)
    length = along(whole, whole)
    reach = along(way(start, point), whole)
    if reach[0] <= 0 or not less(reach, length):
        return None
    return point_plus(start, point_times(whole, over(reach, length)))


def gaps_between(means, lines):
    """Pairs of a point of the shape and one of the means' hull; the nearest two are among them."""
    found = [(nearest_of(lines, mean), mean) for mean in means]
    for corner in corners_of(lines):
        for start, end in combinations(means, 2):
            foot = foot_between(corner, start, end)
            if foot is not None:
                found.append((corner, foot))
    return found


def nearest_two(means, lines):
    """The nearest two points, one of the shape and one of the means' hull."""
    found = None
    for one, other in gaps_between(means, lines):
        if found is None or less(squared(one, other), squared(found[0], found[1])):
            found = (one, other)
    return found


def wall_through(point, across):
    """The wall through a point that goes across a way, made of integers."""
    numbers = [across[0], across[1], along(across, point)]
    factor = lcm(across[0][1], across[1][1], numbers[2][1])
    return tuple([above * (factor // below) for above, below in numbers])


def dice_against(pays, shape, odds):
    """("dice", DICE) whose mean pay by the odds lies in the shape, or ("wall", WALL) that keeps it out."""
    check_odds(pays, shape, odds)
    means = act_means(pays, odds)
    dice = dice_in(means, shape)
    if dice is not None:
        return ("dice", dice)
    near, far = nearest_two(means, shape)
    return ("wall", wall_through(near, way(near, far)))


def is_against(pays, shape, odds, value):
    """Whether a value is ("dice", DICE) or ("wall", WALL) for the pays, the shape and the odds."""
    check_odds(pays, shape, odds)
    if not is_pair(value) or not is_text(value[0]):
        return False
    word, thing = value
    if word == "dice":
        return are_shares(thing, len(pays)) and all_let(shape, weighed_points(act_means(pays, odds), thing))
    return word == "wall" and is_paper(pays, (thing, odds)) and lets_all(thing, shape)
