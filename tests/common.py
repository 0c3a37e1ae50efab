"""What the tests share: wrong values, cases of refusal, and reckoning of their own."""

import unittest
from fractions import Fraction
from itertools import combinations, permutations, product
from math import gcd, isqrt
from random import Random


class Strange:
    """A value that breaks whoever asks it for anything."""

    def stop(self, *_):
        raise AssertionError("a strange value was asked")

    __eq__ = __ne__ = __lt__ = __le__ = __gt__ = __ge__ = stop
    __len__ = __iter__ = __getitem__ = __bool__ = __hash__ = __index__ = __int__ = stop

    @property
    def __class__(self):
        raise AssertionError("a strange value was asked")


def deep_tuple():
    """A tuple that is nested too deep for any recursion."""
    value = ()
    for _ in range(100000):
        value = (value,)
    return value


# What is no integer, no fraction, no point, no pays, no dice and no odds.
OTHER_KINDS = (
    None, True, False, "", "1", "1/2", b"1", 1.0, 0.5, [], [1, 2], [(1, 1)], [(1, 2), (1, 2)],
    {}, {0: 1}, {1, 2}, (), (1,), (None, None), ("1", "2"), deep_tuple(), object(), int, Strange(),
)

NO_FRACTIONS = OTHER_KINDS + (
    1, 0, -1, (1, 2, 3), (2, 4), (-2, 4), (3, 3), (0, 2), (0, 7), (1, 0), (0, 0), (1, -2), (-1, -2), (2, -4),
    (True, 1), (1, True), (False, 1), (1.0, 2), (1, 2.0), ("1", 2), (1, None), ((1, 1), (1, 2)), [1, 1],
    (2 * 10 ** 40, 4), (10 ** 40, 10 ** 39),
)

# What is no FRACTION from nought to one.
NO_PARTS = NO_FRACTIONS + ((-1, 1), (-1, 2), (2, 1), (3, 2), (-1, 10 ** 40), (10 ** 40 + 1, 10 ** 40))

# () and (1,) are polynomials.
NO_POLYS = tuple(value for value in OTHER_KINDS if type(value) is not tuple or value != () and value != (1,)) + (
    1, 0, (0,), (1, 0), (0, 0), (0, 1, 0), (True,), (1, True), (False, 1), (1.0,), (1, 1.0), ("1",), (None,), (1, None),
    (1, None, 1), ((1, 2),), (1, (1, 1)), [1], [], (1,) * 42, (0,) * 41 + (1,), (0,) * 41, (1,) * 1000, (Strange(),),
    (1, Strange()), (Strange(), 1), {1: 1}, range(1, 3), (1, 10 ** 40, 0),
)

NOUGHT_ROOT = ((), (0, 1), (0, 1))
UNIT_ROOT = ((), (1, 1), (1, 1))
HALF_ROOT = ((), (1, 2), (1, 2))
# The number whose square is 1/2.
SKEW_ROOT = ((-1, 0, 2), (0, 1), (1, 1))

NO_ROOTS = OTHER_KINDS + tuple((value, (0, 1), (1, 1)) for value in NO_POLYS) + tuple(
    ((-1, 0, 2), value, (1, 1)) for value in NO_PARTS
) + tuple(
    ((-1, 0, 2), (0, 1), value) for value in NO_PARTS
) + tuple(
    ((), value, value) for value in NO_PARTS
) + (
    1, ((-1, 2), (0, 1)), ((-1, 2), (0, 1), (1, 1), (1, 1)), [(-1, 2), (0, 1), (1, 1)], ((), (1, 2)), ((), (), ()),
    # Nought that is told by two numbers; a number that is told by itself, but by a POLY.
    ((), (0, 1), (1, 1)), ((), (1, 2), (1, 3)), ((), (1, 3), (1, 2)), ((-1, 2), (1, 2), (1, 2)), ((5,), (1, 2), (1, 2)),
    # LOW not less than HIGH.
    ((-1, 2), (1, 1), (0, 1)), ((-1, 0, 2), (3, 4), (2, 3)), ((-1, 0, 2), (3, 4), (3, 4)),
    # 0 at an end, with a change of sign between, or one end alone.
    ((-1, 2), (1, 2), (1, 1)), ((-1, 2), (0, 1), (1, 2)), ((0, 1), (0, 1), (1, 1)), ((-1, 1), (0, 1), (1, 1)),
    ((0, -1, 2), (0, 1), (1, 1)), ((1, -3, 2), (0, 1), (1, 1)), ((0, 1, -3, 2), (0, 1), (1, 1)),
    # No change of sign: 0 nowhere between, or many times an even number.
    ((1,), (0, 1), (1, 1)), ((-1,), (0, 1), (1, 1)), ((1, 0, 1), (0, 1), (1, 1)), ((-1, 0, 2), (0, 1), (2, 3)),
    ((-1, 0, 2), (3, 4), (1, 1)), ((1, -4, 4), (0, 1), (1, 1)), ((1, 0, -4, 0, 4), (0, 1), (1, 1)),
    # More than one number between: two, three, one with and one without a change of sign.
    ((1, -5, 6), (0, 1), (1, 1)), ((-1, 9, -26, 24), (0, 1), (1, 1)), ((1, -7, 16, -12), (0, 1), (1, 1)),
    ((-1, 9, -26, 24), (1, 5), (3, 5)), ((2, 0, -9, 0, 9), (0, 1), (1, 1)),
    (Strange(), (0, 1), (1, 1)), ((-1, 2), Strange(), (1, 1)), ((-1, 2), (0, 1), Strange()),
)

NO_POINTS = OTHER_KINDS + (
    1, (1, 2), (0, 1), ((1, 2),), ((1, 2), (1, 2), (1, 2)), [(1, 2), (1, 2)], ([1, 2], (1, 2)), ((1, 2), [1, 2]),
    ((2, 4), (1, 2)), ((1, 2), (2, 4)), ((1, 0), (1, 2)), ((1, 2), (1, 0)), ((1, -2), (1, 2)), ((1, 2), (1, -2)),
    ((True, 1), (1, 2)), ((1, 2), (0, True)), ((1, 2), None), (None, (1, 2)), (1, (1, 2)), ((1, 2), Strange()),
)

# What is neither DICE for two acts nor ODDS for two answers.
NO_HALVES = OTHER_KINDS + (
    1, (1, 1), ((1, 1),), ((1, 2), (1, 2), (0, 1)), ((0, 1), (0, 1)), ((1, 2), (1, 3)), ((1, 2), (2, 3)),
    ((-1, 2), (3, 2)), ((3, 2), (-1, 2)), ((-1, 3), (4, 3)), ((1, 1), (1, 1)), ((2, 4), (1, 2)), ((1, 2), (2, 4)),
    ((1, 2), None), (None, (1, 2)), ((1, 2), 1), ((True, 1), (0, 1)), ((1, 1), (False, 1)), ((1, 1), (0, 2)),
    ([1, 2], (1, 2)), ((1, 2), [1, 2]), ([1, 1], [0, 1]), ((1, 2), (-1, -2)), ((1, 1), Strange()),
)


# What is no tuple with things in it: neither pays nor a game, neither an act nor lines.
NO_ROWS = [value for value in OTHER_KINDS if type(value) is not tuple or value == ()]

NO_LINES = OTHER_KINDS + (
    1, (1, 0), (1, 0, 0, 0), [1, 0, 0], (0, 0, 0), (0, 0, 1), (0, 0, -1), (0, 0, 1000), (1001, 0, 0), (-1001, 0, 0),
    (0, 1001, 0), (0, -1001, 0), (1, 0, 1001), (1, 0, -1001), (1, 1001, 1), (10 ** 40, 1, 1), (True, 0, 0),
    (1, False, 0), (1, 0, True), (1.0, 0, 0), (1, 0.0, 0), (1, 0, 0.0), ("1", 0, 0), (1, None, 0), (1, 0, (0, 1)),
    ((1, 1), (0, 1), (0, 1)), (Strange(), 0, 0), (1, Strange(), 0), (1, 0, Strange()),
)

RIGHT_LINE = (1, 2, 3)

# What is no tuple of one to eight lines, each behind the place that is told of it.
WRONG_LINES = tuple(
    [((), value) for value in NO_ROWS + [1, [RIGHT_LINE], (RIGHT_LINE,) * 9, (None,) * 9]]
    + [((0,), (value,)) for value in NO_LINES]
    + [((1,), (RIGHT_LINE, value, None)) for value in NO_LINES]
    + [((7,), (RIGHT_LINE,) * 7 + (value,)) for value in NO_LINES]
    # A single line in place of a tuple of lines.
    + [((0,), RIGHT_LINE)]
    # A wrong line is told ahead of a missing common point.
    + [((2,), ((1, 0, 0), (-1, 0, -1), (0, 0, 0)))]
)

# What is no pair of PAYS.
NO_PAIRS = OTHER_KINDS + (
    1, (1, 2, 3), [1, 2], (101, 0), (-101, 0), (0, 101), (0, -101), (10 ** 40, 0), (True, 0), (0, False),
    (1.0, 0), (0, "1"), (None, 0), (0, (1, 1)), ((1, 1), (1, 1)), (Strange(), 0), (0, Strange()),
)

# What is no PAYS, each behind the place that is told of it.
NO_PAYS = tuple(
    [((), value) for value in NO_ROWS + [1, [((0, 0),)], (((0, 0),),) * 5, (None,) * 5]]
    + [((0,), (value,)) for value in NO_ROWS + [1, [(0, 0)], ((0, 0),) * 5, (None,) * 5]]
    + [((1,), (((0, 0),), value, None)) for value in NO_ROWS + [1, [(0, 0)], ((0, 0),) * 2, (None,) * 5]]
    + [((0, 0), ((value,),)) for value in NO_PAIRS]
    + [((1, 1), (((0, 0), (1, 2)), ((0, 0), value), None)) for value in NO_PAIRS]
)

# What is no triple of integers, the first two not both 0.
NO_WALLS = OTHER_KINDS + (
    1, (1, 0), (1, 0, 0, 0), [1, 0, 0], (0, 0, 0), (0, 0, 1), (0, 0, -1), (0, 0, 10 ** 40), (True, 0, 0),
    (1, False, 0), (1, 0, True), (False, True, 0), (1.0, 0, 0), (1, 0.0, 0), (1, 0, 0.0), ("1", 0, 0), (1, None, 0),
    (1, 0, None), ((1, 1), (0, 1), (0, 1)), (Strange(), 0, 0), (1, Strange(), 0), (1, 0, Strange()),
)

# What is no turn of any shape.
NO_TURNS = OTHER_KINDS + (
    0, (0,), (0, 0, 0), [0, 0], (-1, 0), (0, -1), (1, 0), (8, 8), (0, 8), (10 ** 40, 10 ** 40), (False, False),
    (0, False), (False, 0), (0.0, 0), (0, 0.0), ("0", 0), (0, "0"), (0, None), ((0, 0), (0, 0)), (Strange(), 0),
    (0, Strange()), {0: 0}, "00",
)

# What is no kernel of a game of two acts and three answers.
NO_KERNELS = OTHER_KINDS + (
    0, ((), ()), ((0,),), ((0,), (0,), (0,)), ((0,), ()), ((), (0,)), ((0, 1), (0,)), ((0,), (0, 1)), ((2,), (0,)),
    ((0,), (3,)), ((-1,), (0,)), ((0,), (-1,)), ((1, 0), (0, 1)), ((0, 1), (1, 0)), ((0, 0), (0, 1)),
    ((0, 1), (2, 2)), ((0, 1, 2), (0, 1, 2)), ((0, 2), (0, 1)), ((0, 1), (1, 3)), [(0,), (0,)], ([0], (0,)),
    ((0,), [0]), (0, 0), ((False,), (0,)), ((0,), (False,)), ((False, True), (0, 1)), ((0, 1), (0, True)),
    ((0.0,), (0,)), (("0",), (0,)), ((None,), (0,)), (((0,),), (0,)), ((Strange(),), (0,)), ((0,), (Strange(),)),
    (Strange(), Strange()), ({0}, {0}), (range(1), range(1)), ((0, 1), (0, Strange())), ((0, 1), (0, None)),
)

# Two lines without a common point; three of which each two have one, but all three none.
APART = ((1, 0, 0), (-1, 0, -1))
AROUND = ((1, 0, 0), (0, 1, 0), (-1, -1, -1))

# What is no shape, each behind the place that is told of it.
NO_SHAPES = WRONG_LINES + (((), APART), ((), AROUND))

# What is no game, each behind the place that is told of it.
NO_GAMES = tuple(
    [((), value) for value in NO_ROWS + [1, [((1, 1),)], (((1, 1),),) * 5, (None,) * 5]]
    + [((0,), (value,)) for value in NO_ROWS + [1, [(1, 1)], ((1, 1),) * 5, (None,) * 5]]
    + [((1,), (((1, 1),), value, None)) for value in NO_ROWS + [1, [(1, 1)], ((1, 1),) * 2, (None,) * 5]]
    + [((2,), (((1, 1),) * 2, ((1, 1),) * 2, ((1, 1),)))]
    + [((0, 0), ((value,),)) for value in NO_FRACTIONS]
    + [((0, 1), (((1, 1), value, None), None)) for value in NO_FRACTIONS]
    + [((1, 0), (((1, 1), (1, 2)), (value, (1, 1)))) for value in NO_FRACTIONS]
    + [((3, 3), (((1, 1),) * 4,) * 3 + (((1, 1),) * 3 + (value,),)) for value in NO_FRACTIONS]
    # All of an act is told ahead of the next one.
    + [((0, 1), (((1, 1), (2, 4)), ((1, 1),))), ((1,), (((1, 1),), ((2, 4), (1, 1))))]
)


def pair(value):
    """The FRACTION of one of Python's own."""
    return (Fraction(value).numerator, Fraction(value).denominator)


def own(things):
    """A tuple of FRACTIONs in Python's own."""
    return tuple(Fraction(*thing) for thing in things)


def little_polys(many):
    """All POLYs of at most so many things from -2 to 2."""
    rows = [row for size in range(many + 1) for row in product(range(-2, 3), repeat=size)]
    return [row for row in rows if not row or row[-1] != 0]


def product_of(*polys):
    """The product of POLYs, at least of one."""
    found = polys[0]
    if () in polys:
        return ()
    for poly in polys[1:]:
        numbers = [0] * (len(found) + len(poly) - 1)
        for (at, one), (by, other) in product(enumerate(found), enumerate(poly)):
            numbers[at + by] += one * other
        found = tuple(numbers)
    return found


def power_of(poly, many):
    """A POLY that is not () so many times."""
    return product_of((1,), *[poly] * many)


def own_at(poly, place):
    """What a POLY is at one of Python's own fractions."""
    return sum((number * place ** power for power, number in enumerate(poly)), Fraction(0))


def part_of(square):
    """The POLY of the least degree that is 0 at the number from nought on with this square."""
    above, below = square.numerator, square.denominator
    if isqrt(above) ** 2 == above and isqrt(below) ** 2 == below:
        return (-isqrt(above), isqrt(below))
    return (-above, 0, below)


def tellings(square, others):
    """ROOTs of the number from 0 to 1 with this square, by many POLYs and stretches; others are other squares."""
    part = part_of(square)
    found = [((), pair(Fraction(-part[0], part[1])), pair(Fraction(-part[0], part[1])))] if len(part) == 2 else []
    ends = [Fraction(n, d) for n, d in ((0, 1), (1, 1), (1, 5), (4, 9), (3, 5), (5, 6), (2, 3), (1, 10 ** 6))]
    beside = [()] + [(other,) for other in others if other != square]
    for more, factor, many in product(beside, ((1,), (-3,), (1, 0, 1)), (1, 3)):
        poly = product_of(factor, power_of(part, many), *[part_of(other) for other in more])
        for low, high in product(ends, repeat=2):
            alone = not any(low ** 2 <= other <= high ** 2 for other in more)
            if low ** 2 < square < high ** 2 and alone:
                found.append((poly, pair(low), pair(high)))
    return found


def is_whole(poly):
    """Whether no integer above 1 divides all things of a POLY."""
    return gcd(*poly) == 1


def has_point(walls):
    """Whether some point has A X + B Y at most C by each wall: Y is taken out, then X."""
    uppers = [(Fraction(a, b), Fraction(c, b)) for a, b, c in walls if b > 0]
    lowers = [(Fraction(a, b), Fraction(c, b)) for a, b, c in walls if b < 0]
    rest = [(a, c) for a, b, c in walls if b == 0]
    rest += [(a - d, c - e) for a, c in uppers for d, e in lowers]
    most = [Fraction(c) / a for a, c in rest if a > 0]
    least = [Fraction(c) / a for a, c in rest if a < 0]
    if any(a == 0 and c < 0 for a, c in rest):
        return False
    return not most or not least or max(least) <= min(most)


def own_lets_all(wall, lines):
    """Whether a wall of integers lets all points that lines with little numbers let."""
    a, b, c = wall
    # What is beyond a wall is so by more than this: corners have no greater denominators.
    return not has_point(lines + ((-a, -b, -c - Fraction(1, 10 ** 9)),))


def own_mean(points, shares):
    """The mean of pairs of integers by shares, in Python's own fractions."""
    parts = own(shares)
    return tuple(sum(part * point[at] for part, point in zip(parts, points)) for at in (0, 1))


def let_by(walls, x, y):
    """Whether each wall lets the point (x, y)."""
    return all(a * x + b * y <= c for a, b, c in walls)


def crossings(lines):
    """The points at which two lines that are no multiples are both tight."""
    found = []
    for (a, b, c), (d, e, f) in product(lines, repeat=2):
        below = a * e - b * d
        if below:
            found.append((Fraction(c * e - b * f, below), Fraction(a * f - c * d, below)))
    return found


def own_turns(lines):
    """The turns of a shape, ascending: lines with a point at which they are tight, pairs that are so at a corner."""
    found = {(at, at) for at, (a, b, c) in enumerate(lines) if has_point(lines + ((-a, -b, -c),))}
    for x, y in own_corners(lines):
        through = [at for at, (a, b, c) in enumerate(lines) if a * x + b * y == c]
        found |= {(one, other) for one, other in product(through, repeat=2) if one < other}
    return tuple(sorted(found))


def own_corners(lines):
    """All corners, each once, in Python's own fractions."""
    return {(x, y) for x, y in crossings(lines) if let_by(lines, x, y)}


HALF_PLANE = ((2, 3, 5),)
STRIP = ((1, 2, 3), (-1, -2, 1))
WHOLE_LINE = ((3, -1, 2), (-3, 1, -2))
SKEW_LINE = ((2, 4, 6), (-1, -2, -3))
CORNER = ((2, 0, 1), (0, 2, 1))
HALF_STRIP = ((1, 0, 2), (-1, 0, 1), (0, 1, 0))
RAY = ((1, 1, 1), (-1, -1, -1), (1, -1, 3))
TRIANGLE = ((-1, 0, 0), (0, -1, 0), (2, 3, 6))
SQUARE = ((1, 0, 1), (-1, 0, 1), (0, 1, 1), (0, -1, 1))
SEGMENT = ((1, 2, 2), (-1, -2, -2), (1, 0, 2), (-1, 0, 0))
SINGLE_POINT = ((1, 0, 1), (-1, 0, -1), (0, 3, 1), (0, -3, -1))
POINT_OF_THREE = ((1, 0, 0), (0, 1, 0), (-1, -1, 0))
TOLD_TWICE = ((1, 0, 1), (0, 1, 1), (1, 0, 1), (0, 1, 1))
MULTIPLES = ((2, 2, 4), (1, 1, 2), (3, 3, 6), (-1, 0, 0))
PARALLEL = ((1, 1, 5), (1, 1, 3), (1, 1, 4), (2, 2, 9))
FAN = ((1, 0, 0), (1, 1, 0), (0, 1, 0), (-1, 1, 0), (2, 1, 0), (1, 2, 0))
OCTAGON = (
    (1, 0, 5), (1, 1, 7), (0, 1, 5), (-1, 1, 7), (-1, 0, 5), (-1, -1, 7), (0, -1, 5), (1, -1, 7),
)
GREAT = ((1000, 999, 1000), (-999, -1000, 1000), (-1000, 1000, -1000))
UNEVEN = ((1000, 999, 1000), (-997, -1000, 1000), (-1000, 983, -991))
FAR = ((1000, 999, -1000), (-999, -998, 1000), (1, 1, 1000))

NAMED_SHAPES = (
    HALF_PLANE, STRIP, WHOLE_LINE, SKEW_LINE, CORNER, HALF_STRIP, RAY, TRIANGLE, SQUARE, SEGMENT, SINGLE_POINT,
    POINT_OF_THREE, TOLD_TWICE, MULTIPLES, PARALLEL, FAN, OCTAGON, GREAT,
    UNEVEN, FAR,
)

EXAMPLE_PAYS = (((0, 1), (1, 0)), ((1, 0), (0, 1)))
SINGLE_PAY = (((3, -4),),)
ONE_ACT_PAYS = (((1, 0), (0, 1)),)
ONE_ANSWER_PAYS = (((0, 1),), ((1, 0),))
WIDE_PAYS = (((0, 1), (2, -3), (100, -100)),)
TALL_PAYS = (((-5, 7),), ((11, 0),), ((0, 0),), ((-100, 100),))
FULL_PAYS = tuple(tuple((17 * i - 9 * j, 5 * j * j - 31 * i) for j in range(4)) for i in range(4))
UNEVEN_PAYS = (((4, -1), (0, 0), (-8, 3)), ((1, 1), (9, -9), (2, 50)))
NAMED_PAYS = (
    EXAMPLE_PAYS, SINGLE_PAY, ONE_ACT_PAYS, ONE_ANSWER_PAYS, WIDE_PAYS, TALL_PAYS, FULL_PAYS, UNEVEN_PAYS,
)


def made_pays(many, seed, most=3):
    """So many PAYS of all sizes with little numbers, always the same for one seed."""
    drawn = Random(seed)
    found = []
    for place in range(many):
        acts, answers = 1 + place % 4, 1 + place // 4 % 4
        found.append(tuple(
            tuple((drawn.randint(-most, most), drawn.randint(-most, most)) for _ in range(answers))
            for _ in range(acts)
        ))
    return found


LONG = 1234567890123456789012345678901234567890


def shares_for(many):
    """Some tuples of so many parts of one."""
    if many == 1:
        return [((1, 1),)]
    alone = [tuple((int(i == j), 1) for j in range(many)) for i in range(many)]
    alike = [((1, many),) * many]
    triangle = many * (many + 1) // 2
    rising = tuple(Fraction(i + 1, triangle) for i in range(many))
    long = ((1, LONG), (LONG - 1, LONG)) + ((0, 1),) * (many - 2)
    return alone + alike + [tuple((part.numerator, part.denominator) for part in rising), long]


LITTLE_LINES = tuple(
    (a, b, c) for a, b, c in product((-1, 0, 1), repeat=3) if (a, b) != (0, 0)
)


def made_lines(many, seed):
    """So many rows of one to eight lines with little numbers, always the same for one seed."""
    drawn = Random(seed)
    directions = [(a, b) for a, b in product(range(-3, 4), repeat=2) if (a, b) != (0, 0)]
    rows = []
    for place in range(many):
        size = 1 + place % 8
        rows.append(tuple(drawn.choice(directions) + (drawn.randint(-2, 6),) for _ in range(size)))
    return rows


MADE_SHAPES = tuple(row for row in made_lines(160, 5) if has_point(row))
SHAPES = NAMED_SHAPES + MADE_SHAPES


def turn_cases(many_pays):
    """Pays with a shape and one of its turns, many kinds of each."""
    return [
        (pays, shape, turn)
        for at, pays in enumerate(many_pays)
        for shape in SHAPES[at % 7::7]
        for turn in own_turns(shape)[at % 3::3]
    ]


def made_games(many, seed):
    """So many games of all sizes, always the same for one seed."""
    drawn = Random(seed)
    games = []
    for place in range(many):
        acts, answers = 1 + place % 4, 1 + place // 4 % 4
        # Few unlike numbers, so that sums are often alike or nought.
        most, below = drawn.choice(((1, 1), (2, 1), (9, 1), (5, 3), (10 ** 40, 10 ** 20)))
        numbers = [pair(Fraction(drawn.randint(-most, most), drawn.randint(1, below))) for _ in range(16)]
        games.append(tuple(tuple(numbers[4 * act:4 * act + answers]) for act in range(acts)))
    return games


def whole_game(*acts):
    """The game of rows of integers."""
    return tuple(tuple((number, 1) for number in act) for act in acts)


PENNIES = whole_game((1, -1), (-1, 1))
STONES = whole_game((0, 1, -1), (-1, 0, 1), (1, -1, 0))
DIAGONAL = whole_game((1, 0, 0, 0), (0, 1, 0, 0), (0, 0, 1, 0), (0, 0, 0, 1))
NOUGHTS = whole_game((0, 0), (0, 0))
ONE_NUMBER = (((-7, 3),),)
ONE_ACT = whole_game((2, 1))
ONE_ANSWER = whole_game((2,), (-3,), (5,))
ALIKE = whole_game((1, 2), (1, 2), (1, 2))
NAMED_GAMES = (PENNIES, STONES, DIAGONAL, NOUGHTS, ONE_NUMBER, ONE_ACT, ONE_ANSWER, ALIKE)
LITTLE_GAMES = tuple(
    whole_game(numbers[:2], numbers[2:]) for numbers in product((-1, 0, 1), repeat=4)
)
GAMES = NAMED_GAMES + LITTLE_GAMES + tuple(made_games(96, 7))


def own_kernels(acts, answers):
    """All pairs of as many acts as answers, by size, then as Python compares."""
    found = []
    for some in product((False, True), repeat=acts):
        for others in product((False, True), repeat=answers):
            if sum(some) == sum(others) > 0:
                found.append(tuple(tuple(at for at, here in enumerate(marks) if here) for marks in (some, others)))
    return tuple(sorted(found, key=lambda kernel: (len(kernel[0]), kernel)))


def own_determinant(square):
    """The sum over all ways to take one number of each row and column, each with its sign."""
    total = Fraction(0)
    for places in permutations(range(len(square))):
        crossed = sum(1 for one, other in combinations(places, 2) if one > other)
        part = Fraction((-1) ** crossed)
        for row, place in zip(square, places):
            part *= row[place]
        total += part
    return total


def cofactor(square, row, column):
    """The determinant without a row and a column, with its sign."""
    rest = [line[:column] + line[column + 1:] for at, line in enumerate(square) if at != row]
    return (-1) ** (row + column) * own_determinant(rest)


class RefusalCase(unittest.TestCase):
    """Test cases that ask whether calls are refused as told."""

    def refused(self, error, call, *given, **named):
        """The error that the call raises, which must be of this very class."""
        with self.assertRaises(error) as caught:
            call(*given, **named)
        self.assertIs(type(caught.exception), error)
        return caught.exception

    def refused_value(self, error, value, call, *given):
        """The call is refused with an error that bears this very value."""
        self.assertIs(self.refused(error, call, *given).value, value)

    def refused_place(self, place, error, call, *given):
        """The call is refused with an error that bears this place."""
        found = self.refused(error, call, *given).place
        self.assertEqual(found, place)
        self.assertIs(type(found), tuple)

    def each_refused(self, error, wrong, call, right, number):
        """Each wrong value is refused as this parameter, all others being right."""
        for value in wrong:
            given = list(right)
            given[number] = value
            self.refused_value(error, value, call, *given)
