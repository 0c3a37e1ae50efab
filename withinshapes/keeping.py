"""Keeping out: walls with odds, told answers against DICE, means by odds."""

from withinshapes.errors import BadDice, BadParameter
from withinshapes.fractions import are_shares, least_of, least_terms, less
from withinshapes.kinds import is_int, is_pair, is_row
from withinshapes.points import (
    mean_of, means_of, need_dice, need_odds, need_pays, pay_at, pay_by, weighed_points, whole_point,
)
from withinshapes.shapes import beyond

MOST_DICES = 200


def is_wall(value):
    """Whether a value is a triple of integers of any size, the first two not both 0."""
    if not is_row(value, 3, 3) or not all([is_int(number) for number in value]):
        return False
    return value[0] != 0 or value[1] != 0


def act_means(pays, odds):
    """The mean of the pays of each act by the ODDS."""
    return [weighed_points([whole_point(pay) for pay in act], odds) for act in pays]


def above_wall(wall, point):
    """A X + B Y - C of a wall at a POINT, a FRACTION."""
    return least_terms(beyond(wall, point), point[0][1] * point[1][1])


def margin_of(pays, paper):
    """The least A X + B Y - C of the acts' means, of a wall and ODDS."""
    wall, odds = paper
    return least_of([above_wall(wall, mean) for mean in act_means(pays, odds)])


def is_paper(pays, value):
    """Whether a value is (WALL, ODDS), the wall letting no act's mean by the ODDS."""
    if not is_pair(value) or not is_wall(value[0]) or not are_shares(value[1], len(pays[0])):
        return False
    return margin_of(pays, value)[0] > 0


def check_paper(pays, paper):
    """Refuses what are no pays, or no wall and ODDS that keep them out."""
    need_pays(pays)
    if not is_paper(pays, paper):
        raise BadParameter(paper)


def paper_margin(pays, paper):
    """The margin of a paper: by how much at least each act's mean is beyond the wall."""
    check_paper(pays, paper)
    return margin_of(pays, paper)


def answer_against(pays, wall, dice):
    """The first answer whose pay is farthest along the wall's way out."""
    found = 0
    farthest = None
    for answer in range(len(pays[0])):
        far = above_wall(wall, pay_at(pays, dice, answer))
        if farthest is None or less(farthest, far):
            found, farthest = answer, far
    return found


def kept_answer(pays, paper, dice):
    """The first answer for which A X + B Y of the round's pay is greatest."""
    check_paper(pays, paper)
    need_dice(pays, dice)
    return answer_against(pays, paper[0], dice)


def check_dices(pays, dices):
    """Refuses what is no tuple of 1 to 200 DICE."""
    if not is_row(dices, 1, MOST_DICES):
        raise BadParameter(dices)
    for dice in dices:
        if not are_shares(dice, len(pays)):
            raise BadDice(dice)


def kept_row(pays, paper, dices):
    """(ANSWERS, MEANS): the told answer for each round, and behind each round the mean so far."""
    check_paper(pays, paper)
    check_dices(pays, dices)
    answers = tuple([answer_against(pays, paper[0], dice) for dice in dices])
    return (answers, means_of(pays, dices, answers))


def mean_by_odds(pays, odds, dices):
    """The mean over all rows of answers, each as likely as its ODDS tell, of the mean of the pays."""
    need_odds(pays, odds)
    check_dices(pays, dices)
    return mean_of(tuple([pay_by(pays, dice, odds) for dice in dices]))
