"""Led or kept out: a chain for each turn of the shape, or a wall with odds."""

from itertools import combinations
from math import gcd

from withinshapes.chains import chain_in, is_chain_in, is_gap_in
from withinshapes.ends import lets_all
from withinshapes.errors import BadParameter
from withinshapes.keeping import is_paper, is_wall
from withinshapes.kinds import is_pair, is_row, is_text
from withinshapes.shapes import check_both, need_shape
from withinshapes.turns import check_turn, game_on_way, turns_of


def wall_at(lines, turn, t):
    """The turn's line at t, times the least integer above 0 that makes its three numbers integers."""
    above, below = t
    one, other = lines[turn[0]], lines[turn[1]]
    numbers = [(below - above) * first + above * second for first, second in zip(one, other)]
    divisor = below
    for number in numbers:
        divisor = gcd(divisor, number)
    return tuple([number // divisor for number in numbers])


def paper_by(lines, turn, gap):
    """(WALL, ODDS) by a gap of a turn."""
    t, odds = gap
    return (wall_at(lines, turn, t), odds)


def lead_of(pays, lines):
    """("led", CHAINS) or ("out", (WALL, ODDS)), of pays and a shape that are known to be right."""
    chains = []
    for turn in turns_of(lines):
        word, found = chain_in(game_on_way(pays, lines, turn))
        if word == "gap":
            return ("out", paper_by(lines, turn, found))
        chains.append(found)
    return ("led", tuple(chains))


def leads(pays, lines):
    """Whether the pays lead into a shape, both known to be right."""
    return lead_of(pays, lines)[0] == "led"


def is_led(pays, shape):
    """Whether the shape is led by the pays."""
    check_both(pays, shape)
    return leads(pays, shape)


def lead(pays, shape):
    """("led", CHAINS) with a CHAIN for each turn of the shape, or ("out", (WALL, ODDS))."""
    check_both(pays, shape)
    return lead_of(pays, shape)


def are_chains(pays, lines, value):
    """Whether a value is a tuple with a CHAIN for each turn of the shape."""
    found = turns_of(lines)
    if not is_row(value, len(found), len(found)):
        return False
    for turn, chain in zip(found, value):
        if not is_chain_in(game_on_way(pays, lines, turn), chain):
            return False
    return True


def is_out(pays, lines, value):
    """Whether a value is (WALL, ODDS) that keep a shape out, pays and shape known to be right."""
    return is_paper(pays, value) and lets_all(value[0], lines)


def is_lead(pays, shape, value):
    """Whether a value is ("led", CHAINS) or ("out", (WALL, ODDS)) for the pays and the shape."""
    check_both(pays, shape)
    if not is_pair(value) or not is_text(value[0]):
        return False
    word, paper = value
    if word == "led":
        return are_chains(pays, shape, paper)
    return word == "out" and is_out(pays, shape, paper)


def is_border_of(shape, value):
    """Whether a value is a wall of the shape: a triple of integers that lets all its points."""
    need_shape(shape)
    return is_wall(value) and lets_all(value, shape)


def wall_of(pays, shape, turn, gap):
    """The paper (WALL, ODDS) of a gap (T, ODDS): WALL the turn's line at T, made of integers."""
    check_turn(pays, shape, turn)
    if not is_gap_in(game_on_way(pays, shape, turn), gap):
        raise BadParameter(gap)
    return paper_by(shape, turn, gap)


def led_lines(pays, shape):
    """The SET of the numbers of the lines that are led when they stand alone."""
    check_both(pays, shape)
    return tuple([number for number, line in enumerate(shape) if leads(pays, (line,))])


def led_turns(pays, shape):
    """The tuple of the turns whose games are met at all T, ascending."""
    check_both(pays, shape)
    return tuple([turn for turn in turns_of(shape) if chain_in(game_on_way(pays, shape, turn))[0] == "chain"])


def least_part(pays, shape):
    """The first SET of one or two lines that are kept out as a shape by themselves; None if the shape is led."""
    check_both(pays, shape)
    for size in range(1, 3):
        for lot in combinations(range(len(shape)), size):
            if not leads(pays, tuple([shape[number] for number in lot])):
                return lot
    return None
