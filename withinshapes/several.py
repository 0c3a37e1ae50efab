"""Several pays by turns; regrets; at least so much while at most so much."""

from withinshapes.errors import BadParameter, BadPays
from withinshapes.kinds import MOST_ANSWERS, is_int_within, is_pair, is_row, is_text, wrong_place
from withinshapes.leading import are_chains, is_out, lead_of, leads
from withinshapes.points import is_pay
from withinshapes.shapes import MOST_IN_LINE, need_shape
from withinshapes.steering import steer

MOST_PAYS = 4
MOST_TURNS = 100
MOST_WISHED = 50


def need_several(several):
    """The SEVERAL themselves: a tuple of 1 to 4 PAYS."""
    if not is_row(several, 1, MOST_PAYS):
        raise BadPays(())
    for number, pays in enumerate(several):
        place = wrong_place(pays, is_pay)
        if place is not None:
            raise BadPays((number,) + place)
    return several


def check_several(several, shape):
    """Refuses what are no SEVERAL or no shape."""
    need_several(several)
    need_shape(shape)


def all_led(several, shape):
    """("led", LEADS) if all of them lead into the shape, else ("out", I, PAPER) of the first that doesn't."""
    check_several(several, shape)
    found = []
    for number, pays in enumerate(several):
        word, paper = lead_of(pays, shape)
        if word == "out":
            return (word, number, paper)
        found.append((word, paper))
    return ("led", tuple(found))


def is_led_paper(pays, lines, value):
    """Whether a value is ("led", CHAINS) for pays and a shape that are known to be right."""
    if not is_pair(value) or not is_text(value[0]):
        return False
    return value[0] == "led" and are_chains(pays, lines, value[1])


def are_leads(several, lines, value):
    """Whether a value is a tuple with ("led", CHAINS) for each of SEVERAL."""
    if not is_row(value, len(several), len(several)):
        return False
    return all([is_led_paper(pays, lines, paper) for pays, paper in zip(several, value)])


def is_first_out(several, lines, number, paper):
    """Whether a value is the number of the first by which the shape is kept out, and the other one shows it."""
    if not is_int_within(number, 0, len(several) - 1) or not is_out(several[number], lines, paper):
        return False
    return all([leads(pays, lines) for pays in several[:number]])


def is_all_led(several, shape, value):
    """Whether a value is ("led", LEADS) or ("out", I, PAPER) for the SEVERAL and the shape."""
    check_several(several, shape)
    if not is_row(value, 2, 3) or not is_text(value[0]):
        return False
    if len(value) == 2:
        return value[0] == "led" and are_leads(several, shape, value[1])
    return value[0] == "out" and is_first_out(several, shape, value[1], value[2])


def is_named_round(several, value):
    """Whether a value is a pair of the number of one of SEVERAL and that of one of its answers."""
    if not is_pair(value) or not is_int_within(value[0], 0, len(several) - 1):
        return False
    return is_int_within(value[1], 0, len(several[value[0]][0]) - 1)


def by_turns(several, shape, rounds):
    """(DICES, MEANS) by the rule of steering, with the pays that each round names."""
    check_several(several, shape)
    if not is_row(rounds, 0, MOST_TURNS) or not all([is_named_round(several, named) for named in rounds]):
        raise BadParameter(rounds)
    return steer([(several[number], answer) for number, answer in rounds], shape, 0)


def is_wish_row(value):
    """Whether a value is a tuple of 1 to 4 integers from -50 to 50."""
    if not is_row(value, 1, MOST_ANSWERS):
        return False
    return all([is_int_within(number, -MOST_WISHED, MOST_WISHED) for number in value])


def check_wishes(wishes):
    """Refuses what are no WISHES."""
    if not is_pair(wishes) or not all([is_wish_row(row) for row in wishes]):
        raise BadParameter(wishes)
    if len(wishes[0]) != len(wishes[1]):
        raise BadParameter(wishes)


def regrets(wishes):
    """The PAYS of two acts: by how much each act would have been better."""
    check_wishes(wishes)
    one, other = wishes
    return tuple([
        tuple([(first - drawn, second - drawn) for first, second, drawn in zip(one, other, row)])
        for row in wishes
    ])


def regret_shape():
    """The shape by whose points neither act would have been better."""
    return ((1, 0, 0), (0, 1, 0))


def while_shape(least, most):
    """The shape by whose points the first number is at least so much, the second one at most so much."""
    for number in (least, most):
        if not is_int_within(number, -MOST_IN_LINE, MOST_IN_LINE):
            raise BadParameter(number)
    return ((-1, 0, -least), (0, 1, most))
