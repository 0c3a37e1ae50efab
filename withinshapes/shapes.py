"""Shapes: the points that 1 to 8 lines let; papers that lines let no common one."""

from itertools import combinations

from withinshapes.errors import BadShape, NoRow
from withinshapes.fractions import least_of, least_terms
from withinshapes.kinds import is_int, is_int_within, is_number_set, is_pair, is_row
from withinshapes.points import need_pays, need_point

MOST_LINES = 8
MOST_IN_LINE = 1000


def is_line(value):
    """Whether a value is a LINE."""
    if not is_row(value, 3, 3):
        return False
    if not all([is_int_within(number, -MOST_IN_LINE, MOST_IN_LINE) for number in value]):
        return False
    return value[0] != 0 or value[1] != 0


def need_lines(lines):
    """The tuple of 1 to 8 LINEs itself."""
    if not is_row(lines, 1, MOST_LINES):
        raise BadShape(())
    for number, line in enumerate(lines):
        if not is_line(line):
            raise BadShape((number,))
    return lines


def need_shape(shape):
    """The shape itself: LINEs that let a common point."""
    need_lines(shape)
    if paper_of(shape) is not None:
        raise BadShape(())
    return shape


def is_shape(value):
    """Whether a value is a shape."""
    if not is_row(value, 1, MOST_LINES) or not all([is_line(line) for line in value]):
        return False
    return paper_of(value) is None


def check_both(pays, shape):
    """Refuses what are no pays or no shape."""
    need_pays(pays)
    need_shape(shape)


def turned_by(one, other):
    """0 exactly if A, B of one line are a multiple of those of the other one."""
    return one[0] * other[1] - one[1] * other[0]


def beyond(line, point):
    """How far A X + B Y is above C, times both denominators of the point: an integer."""
    (across, across_below), (up, up_below) = point
    along = line[0] * across * up_below + line[1] * up * across_below
    return along - line[2] * across_below * up_below


def all_let(lines, point):
    """Whether all lines let a point."""
    return all([beyond(line, point) <= 0 for line in lines])


def lets(shape, point):
    """Whether all lines of the shape let the point."""
    need_shape(shape)
    need_point(point)
    return all_let(shape, point)


def tight(shape, point):
    """The SET of the numbers of the lines that are tight at a point of the shape."""
    if not lets(shape, point):
        return ()
    return tuple([number for number, line in enumerate(shape) if beyond(line, point) == 0])


def weights_of_two(one, other):
    """Integers from 1 on by which A and B of two lines come to 0, None if there are none."""
    if turned_by(one, other) != 0 or one[0] * other[0] + one[1] * other[1] > 0:
        return None
    return (abs(other[0]) + abs(other[1]), abs(one[0]) + abs(one[1]))


def weights_of_three(one, other, third):
    """Integers from 1 on by which A and B of three lines come to 0, None if no others do.

    Lines that are all multiples of one another are left to weights_of_two.
    """
    weights = (turned_by(other, third), turned_by(third, one), turned_by(one, other))
    if max(weights) < 0:
        return tuple([-weight for weight in weights])
    return weights if min(weights) > 0 else None


def paper_of(lines):
    """A PAPER that LINEs let no common point, None if they let one."""
    papers = []
    for one, other in combinations(range(len(lines)), 2):
        papers.append(((one, other), weights_of_two(lines[one], lines[other])))
    for one, other, third in combinations(range(len(lines)), 3):
        papers.append(((one, other, third), weights_of_three(lines[one], lines[other], lines[third])))
    for numbers, weights in papers:
        if weights is not None:
            paper = tuple(zip(numbers, weights))
            if weighed_sum(lines, paper, 2) < 0:
                return paper
    return None


def weighed_sum(lines, paper, place):
    """The sum of the A, B or C (place 0, 1 or 2) of a paper's lines, each times its W."""
    return sum([lines[number][place] * weight for number, weight in paper])


def no_point(lines):
    """A PAPER that the lines let no common point."""
    need_lines(lines)
    paper = paper_of(lines)
    if paper is None:
        raise NoRow()
    return paper


def is_weight(value):
    """Whether a value is a pair of anything and an integer from 1 on."""
    return is_pair(value) and is_int(value[1]) and value[1] >= 1


def is_no_point(lines, value):
    """Whether a value is a PAPER that the lines let no common point."""
    need_lines(lines)
    if not is_row(value, 2, 3) or not all([is_weight(thing) for thing in value]):
        return False
    if not is_number_set(tuple([thing[0] for thing in value]), len(lines) - 1):
        return False
    if weighed_sum(lines, value, 0) != 0 or weighed_sum(lines, value, 1) != 0:
        return False
    return weighed_sum(lines, value, 2) < 0


def pairs_of(lines):
    """Each two of the lines."""
    return [(lines[one], lines[other]) for one, other in combinations(range(len(lines)), 2)]


def meeting(one, other):
    """The POINT at which two lines that are no multiples of one another are both tight."""
    below = turned_by(one, other)
    across = least_terms(one[2] * other[1] - one[1] * other[2], below)
    up = least_terms(one[0] * other[2] - one[2] * other[0], below)
    return (across, up)


def corners_of(lines):
    """The corners of a shape that is known to be one."""
    points = [meeting(one, other) for one, other in pairs_of(lines) if turned_by(one, other) != 0]
    return tuple(sorted({point for point in points if all_let(lines, point)}))


def corners(shape):
    """The SET of all corners of the shape, as Python compares."""
    need_shape(shape)
    return corners_of(shape)


def end_by_line(line, a, b):
    """The greatest a X + b Y that one line lets, None if there is none."""
    along = line[0] * a + line[1] * b
    if turned_by(line, (a, b)) != 0 or along < 0:
        return None
    return least_terms(line[2] * along, line[0] ** 2 + line[1] ** 2)


def end_by_lines(one, other, a, b):
    """The greatest a X + b Y that two lines let where they meet, None if they do or have none."""
    below = turned_by(one, other)
    if below == 0:
        return None
    first = least_terms(turned_by((a, b), other), below)
    second = least_terms(turned_by(one, (a, b)), below)
    if first[0] < 0 or second[0] < 0:
        return None
    return least_terms(first[0] * one[2] * second[1] + second[0] * other[2] * first[1], first[1] * second[1])


def end_along(lines, a, b):
    """The greatest a X + b Y of what lines with a common point let, None if there is none.

    One line alone, or two that meet, hold it as low as all of them do.
    """
    ends = [end_by_line(line, a, b) for line in lines]
    ends = ends + [end_by_lines(one, other, a, b) for one, other in pairs_of(lines)]
    told = [end for end in ends if end is not None]
    return least_of(told) if told else None


def is_bounded(shape):
    """Whether the shape has an end in every direction."""
    need_shape(shape)
    # A shape that ends on four sides lies in a box.
    ends = [end_along(shape, a, b) for a, b in ((1, 0), (0, 1), (-1, 0), (0, -1))]
    return all([end is not None for end in ends])
