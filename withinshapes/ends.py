"""Ends of shapes: how far they go, what of them is nearest, which lines they can do without."""

from withinshapes.errors import BadParameter
from withinshapes.fractions import is_fraction, least_terms, less
from withinshapes.kinds import is_int_within
from withinshapes.points import need_point, squared
from withinshapes.shapes import MOST_IN_LINE, all_let, beyond, corners_of, end_along, need_shape


def greatest_along(shape, a, b):
    """The greatest a X + b Y of the shape's points, None if there is none."""
    need_shape(shape)
    for number in (a, b):
        if not is_int_within(number, -MOST_IN_LINE, MOST_IN_LINE):
            raise BadParameter(number)
    return end_along(shape, a, b)


def foot(line, point):
    """The POINT nearest to a point of those at which a line is tight."""
    (across, across_below), (up, up_below) = point
    far = beyond(line, point)
    length = line[0] ** 2 + line[1] ** 2
    below = across_below * up_below * length
    return (
        least_terms(across * up_below * length - line[0] * far, below),
        least_terms(up * across_below * length - line[1] * far, below),
    )


def nearest_corner(lines, point):
    """The corner with the least squared distance, of a shape that has corners."""
    found = None
    for corner in corners_of(lines):
        if found is None or less(squared(corner, point), squared(found, point)):
            found = corner
    return found


def nearest_of(lines, point):
    """The nearest point, of a shape and for a point that are known to be right."""
    if all_let(lines, point):
        return point
    for line in lines:
        if beyond(line, point) > 0:
            near = foot(line, point)
            # The line alone lets nothing nearer, so the shape doesn't either.
            if all_let(lines, near):
                return near
    return nearest_corner(lines, point)


def nearest(shape, point):
    """The POINT of the shape with the least squared distance from the point."""
    need_shape(shape)
    need_point(point)
    return nearest_of(shape, point)


def squared_from(shape, point):
    """The squared distance of the point from the shape's nearest one."""
    return squared(nearest(shape, point), point)


def lets_all(wall, lines):
    """Whether a wall lets all points that lines with a common point let."""
    end = end_along(lines, wall[0], wall[1])
    return end is not None and end[0] <= wall[2] * end[1]


def idle_lines(shape):
    """The SET of the numbers of the lines that are left out, from the first one on."""
    need_shape(shape)
    left = list(range(len(shape)))
    for number, line in enumerate(shape):
        others = [other for other in left if other != number]
        if others and lets_all(line, [shape[other] for other in others]):
            left = others
    return tuple([number for number in range(len(shape)) if number not in left])


def same_points(shape, other):
    """Whether both shapes have the same points."""
    need_shape(shape)
    need_shape(other)
    inward = [lets_all(line, shape) for line in other]
    outward = [lets_all(line, other) for line in shape]
    return all(inward) and all(outward)


def widened(shape, more):
    """The tuple of the walls that let A X + B Y up to C + more, line by line."""
    need_shape(shape)
    if not is_fraction(more) or more[0] < 0:
        raise BadParameter(more)
    above, below = more
    return tuple([(a * below, b * below, c * below + above) for a, b, c in shape])
