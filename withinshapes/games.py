"""Games of numbers: one hand draws acts and wishes for little, the other one answers and wishes for much."""

from withinshapes.errors import BadDice, BadOdds
from withinshapes.fractions import are_shares, is_fraction, least_terms, less, weighed
from withinshapes.kinds import is_pair, is_row, is_text
from withinshapes.squares import (
    check_game, exchanged, kernels_of, spread, square_of, sums_over, upright, weights_of, whole_rows,
)


def need_game(game):
    """The GAME itself."""
    check_game(game)
    return game


def answer_sums(game, dice):
    """The answers' sums, of what is already known to be right."""
    return tuple([weighed(numbers, dice) for numbers in exchanged(game)])


def act_sums(game, odds):
    """The acts' sums, of what is already known to be right."""
    return tuple([weighed(numbers, odds) for numbers in game])


def sums_by(game, dice):
    """The tuple of the answers' sums with the DICE."""
    need_game(game)
    if not are_shares(dice, len(game)):
        raise BadDice(dice)
    return answer_sums(game, dice)


def sums_of(game, odds):
    """The tuple of the acts' sums with the ODDS."""
    need_game(game)
    if not are_shares(odds, len(game[0])):
        raise BadOdds(odds)
    return act_sums(game, odds)


def solution(rows, kernel):
    """(QUOTIENT, DICE, ODDS) of a kernel that tells what the rows are worth, None of any other."""
    acts, answers = kernel
    square = square_of(rows, kernel)
    drawn = upright(weights_of(square))
    given = upright(weights_of(exchanged(square)))
    if drawn is None or given is None:
        return None
    # Each of the kernel's answers comes to the determinant, with the weights' own sign.
    told = sum([weight * row[0] for weight, row in zip(drawn, square)])
    most = max(sums_over(rows, acts, drawn))
    least = min(sums_over(exchanged(rows), answers, given))
    if most > told or least < told:
        return None
    quotient = least_terms(told, sum(drawn))
    return (quotient, spread(drawn, acts, len(rows)), spread(given, answers, len(rows[0])))


def worth(game):
    """(WORTH, DICE, ODDS) of the game."""
    need_game(game)
    rows, factor = whole_rows(game)
    # Each game has a kernel that tells all three, so the loop always ends in a return.
    for kernel in kernels_of(len(game), len(game[0])):
        found = solution(rows, kernel)
        if found is not None:
            (above, below), dice, odds = found
            return (least_terms(above, below * factor), dice, odds)


def is_worth(game, value):
    """Whether a value is (WORTH, DICE, ODDS) of the game."""
    need_game(game)
    if not is_row(value, 3, 3):
        return False
    told, dice, odds = value
    if not is_fraction(told) or not are_shares(dice, len(game)) or not are_shares(odds, len(game[0])):
        return False
    held = [not less(told, total) for total in answer_sums(game, dice)]
    reached = [not less(total, told) for total in act_sums(game, odds)]
    return all(held) and all(reached)


def met(game):
    """("dice", DICE) if some DICE have no sum above nought, else ("odds", ODDS)."""
    told, dice, odds = worth(game)
    if told[0] <= 0:
        return ("dice", dice)
    return ("odds", odds)


def meets(game, dice):
    """Whether no answer's sum with the DICE is above nought."""
    return all([total[0] <= 0 for total in answer_sums(game, dice)])


def is_met(game, value):
    """Whether a value is ("dice", DICE) that meet the game, or ("odds", ODDS) that keep it from being met."""
    need_game(game)
    if not is_pair(value) or not is_text(value[0]):
        return False
    word, shares = value
    if word == "dice":
        return are_shares(shares, len(game)) and meets(game, shares)
    if word == "odds":
        return are_shares(shares, len(game[0])) and all([total[0] > 0 for total in act_sums(game, shares)])
    return False


def negated(number):
    """A FRACTION with the other sign."""
    return (-number[0], number[1])


def turned(game):
    """The turned game, of a game that is known to be one."""
    return tuple([tuple([negated(number) for number in numbers]) for numbers in exchanged(game)])


def turned_game(game):
    """The game with acts and answers exchanged and each number's sign turned about."""
    need_game(game)
    return turned(game)


def at_most(one, other):
    """Whether each number of one row is at most that of the other row."""
    return all([not less(second, first) for first, second in zip(one, other)])


def rows_left(rows):
    """The SET of the numbers of the rows left: a row goes if some other still there is at most it."""
    left = list(range(len(rows)))
    for number, row in enumerate(rows):
        others = [other for other in left if other != number]
        if any([at_most(rows[other], row) for other in others]):
            left = others
    return tuple(left)


def bare_game(game):
    """(ACTS, ANSWERS, GAME): the acts and the answers left, and their numbers."""
    need_game(game)
    acts = rows_left(game)
    # With all signs turned about the answers go as acts do.
    answers = rows_left(turned([game[act] for act in acts]))
    return (acts, answers, tuple([tuple([game[act][answer] for answer in answers]) for act in acts]))
