"""Widening: how far all lines of a shape, or one of them, must give way till it is led."""

from withinshapes.errors import BadParameter, NoRow, TooGreat
from withinshapes.kinds import is_int_within, is_row
from withinshapes.leading import are_chains, is_out, lead_of, leads
from withinshapes.shapes import MOST_IN_LINE, check_both, paper_of


def least_that(does, low, high):
    """The least integer from low to high that does, if high does, and with each one those above it."""
    while low < high:
        middle = (low + high) // 2
        if does(middle):
            high = middle
        else:
            low = middle + 1
    return low


def wider(lines, more):
    """The lines with a C greater by so much."""
    return tuple([(a, b, c + more) for a, b, c in lines])


def most_wider(lines):
    """By how much the C of all lines can be greater."""
    return MOST_IN_LINE - max([line[2] for line in lines])


def least_widening(pays, shape):
    """(W, CHAINS, OUT): the least W by which the shape widened is led, and papers that it is."""
    check_both(pays, shape)
    most = most_wider(shape)
    # What has a led shape within it is led.
    if not leads(pays, wider(shape, most)):
        raise TooGreat(MOST_IN_LINE)
    more = least_that(lambda number: leads(pays, wider(shape, number)), 0, most)
    _, chains = lead_of(pays, wider(shape, more))
    out = None if more == 0 else lead_of(pays, wider(shape, more - 1))[1]
    return (more, chains, out)


def is_least_widening(pays, shape, value):
    """Whether a value is (W, CHAINS, OUT) for the pays and the shape."""
    check_both(pays, shape)
    if not is_row(value, 3, 3) or not is_int_within(value[0], 0, most_wider(shape)):
        return False
    more, chains, out = value
    if not are_chains(pays, wider(shape, more), chains):
        return False
    if more == 0:
        return out is None
    return is_out(pays, wider(shape, more - 1), out)


def check_number(pays, shape, number):
    """Refuses what are no pays, no shape or no number of a line of it."""
    check_both(pays, shape)
    if not is_int_within(number, 0, len(shape) - 1):
        raise BadParameter(number)


def pushed(lines, number, end):
    """The lines with this C for one of them."""
    a, b, _ = lines[number]
    return lines[:number] + ((a, b, end),) + lines[number + 1:]


def leads_into(pays, lines):
    """Whether lines let a common point, and are led as a shape."""
    return paper_of(lines) is None and leads(pays, lines)


def why_not(pays, lines):
    """(WALL, ODDS) that keep lines out that aren't led as a shape; () if they let no common point."""
    if paper_of(lines) is not None:
        return ()
    return lead_of(pays, lines)[1]


def least_push(pays, shape, number):
    """(C, CHAINS, OUT): the least C for one line by which the shape is led, and papers that it is."""
    check_number(pays, shape, number)
    if not leads_into(pays, pushed(shape, number, MOST_IN_LINE)):
        raise NoRow()
    found = least_that(lambda end: leads_into(pays, pushed(shape, number, end)), -MOST_IN_LINE, MOST_IN_LINE)
    _, chains = lead_of(pays, pushed(shape, number, found))
    out = None if found == -MOST_IN_LINE else why_not(pays, pushed(shape, number, found - 1))
    return (found, chains, out)


def is_why_not(pays, lines, value):
    """Whether a value is (WALL, ODDS) that keep a shape out, or () for lines that let no common point."""
    if paper_of(lines) is not None:
        return is_row(value, 0, 0)
    return is_out(pays, lines, value)


def is_least_push(pays, shape, number, value):
    """Whether a value is (C, CHAINS, OUT) for the pays, the shape and the number of a line."""
    check_number(pays, shape, number)
    if not is_row(value, 3, 3) or not is_int_within(value[0], -MOST_IN_LINE, MOST_IN_LINE):
        return False
    end, chains, out = value
    lines = pushed(shape, number, end)
    if paper_of(lines) is not None or not are_chains(pays, lines, chains):
        return False
    if end == -MOST_IN_LINE:
        return out is None
    return is_why_not(pays, pushed(shape, number, end - 1), out)
