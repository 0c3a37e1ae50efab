"""Heights: how far a half plane must reach to be led."""

from withinshapes.errors import BadParameter
from withinshapes.games import is_worth, worth
from withinshapes.kinds import is_int_within
from withinshapes.points import need_pays
from withinshapes.shapes import MOST_IN_LINE


def check_way(pays, a, b):
    """Refuses what are no pays, or no two integers, not both 0, for the A and B of a line."""
    need_pays(pays)
    for number in (a, b):
        if not is_int_within(number, -MOST_IN_LINE, MOST_IN_LINE):
            raise BadParameter(number)
    if a == 0 and b == 0:
        raise BadParameter(b)


def game_along(pays, a, b):
    """The game of all a X + b Y of the pays."""
    return tuple([tuple([(a * right + b * up, 1) for right, up in act]) for act in pays])


def height(pays, a, b):
    """(C, DICE, ODDS): the least C for which the points with a X + b Y at most C are led."""
    check_way(pays, a, b)
    return worth(game_along(pays, a, b))


def is_height(pays, a, b, value):
    """Whether a value is (C, DICE, ODDS) for the pays and this way."""
    check_way(pays, a, b)
    return is_worth(game_along(pays, a, b), value)


def heights(pays):
    """The tuple of the four C to the right, up, to the left, down."""
    need_pays(pays)
    return tuple([worth(game_along(pays, a, b))[0] for a, b in ((1, 0), (0, 1), (-1, 0), (0, -1))])
