"""What the tests share: wrong values, cases of refusal, and reckoning of their own."""

import unittest
from fractions import Fraction
from itertools import product
from random import Random


class Strange:
    """A value that breaks whoever asks it for anything."""

    def stop(self, *_):
        raise AssertionError("a strange value was asked")

    __eq__ = __ne__ = __lt__ = __le__ = __gt__ = __ge__ = stop
    __len__ = __iter__ = __getitem__ = __bool__ = __hash__ = __index__ = __int__ = stop

    @property
    def __class__(self):
        raise AssertionError("a strange value was asked")


def deep_tuple():
    """A tuple that is nested too deep for any recursion."""
    value = ()
    for _ in range(100000):
        value = (value,)
    return value


# What is no integer, no fraction, no point, no pays, no dice and no odds.
OTHER_KINDS = (
    None, True, False, "", "1", "1/2", b"1", 1.0, 0.5, [], [1, 2], [(1, 1)], [(1, 2), (1, 2)],
    {}, {0: 1}, {1, 2}, (), (1,), (None, None), ("1", "2"), deep_tuple(), object(), int, Strange(),
)

NO_FRACTIONS = OTHER_KINDS + (
    1, 0, -1, (1, 2, 3), (2, 4), (-2, 4), (3, 3), (0, 2), (0, 7), (1, 0), (0, 0), (1, -2), (-1, -2), (2, -4),
    (True, 1), (1, True), (False, 1), (1.0, 2), (1, 2.0), ("1", 2), (1, None), ((1, 1), (1, 2)), [1, 1],
    (2 * 10 ** 40, 4), (10 ** 40, 10 ** 39),
)

NO_POINTS = OTHER_KINDS + (
    1, (1, 2), (0, 1), ((1, 2),), ((1, 2), (1, 2), (1, 2)), [(1, 2), (1, 2)], ([1, 2], (1, 2)), ((1, 2), [1, 2]),
    ((2, 4), (1, 2)), ((1, 2), (2, 4)), ((1, 0), (1, 2)), ((1, 2), (1, 0)), ((1, -2), (1, 2)), ((1, 2), (1, -2)),
    ((True, 1), (1, 2)), ((1, 2), (0, True)), ((1, 2), None), (None, (1, 2)), (1, (1, 2)), ((1, 2), Strange()),
)

# What is neither DICE for two acts nor ODDS for two answers.
NO_HALVES = OTHER_KINDS + (
    1, (1, 1), ((1, 1),), ((1, 2), (1, 2), (0, 1)), ((0, 1), (0, 1)), ((1, 2), (1, 3)), ((1, 2), (2, 3)),
    ((-1, 2), (3, 2)), ((3, 2), (-1, 2)), ((-1, 3), (4, 3)), ((1, 1), (1, 1)), ((2, 4), (1, 2)), ((1, 2), (2, 4)),
    ((1, 2), None), (None, (1, 2)), ((1, 2), 1), ((True, 1), (0, 1)), ((1, 1), (False, 1)), ((1, 1), (0, 2)),
    ([1, 2], (1, 2)), ((1, 2), [1, 2]), ([1, 1], [0, 1]), ((1, 2), (-1, -2)), ((1, 1), Strange()),
)


# What is no tuple with things in it: neither pays nor a game, neither an act nor lines.
NO_ROWS = [value for value in OTHER_KINDS if type(value) is not tuple or value == ()]

NO_LINES = OTHER_KINDS + (
    1, (1, 0), (1, 0, 0, 0), [1, 0, 0], (0, 0, 0), (0, 0, 1), (0, 0, -1), (0, 0, 1000), (1001, 0, 0), (-1001, 0, 0),
    (0, 1001, 0), (0, -1001, 0), (1, 0, 1001), (1, 0, -1001), (1, 1001, 1), (10 ** 40, 1, 1), (True, 0, 0),
    (1, False, 0), (1, 0, True), (1.0, 0, 0), (1, 0.0, 0), (1, 0, 0.0), ("1", 0, 0), (1, None, 0), (1, 0, (0, 1)),
    ((1, 1), (0, 1), (0, 1)), (Strange(), 0, 0), (1, Strange(), 0), (1, 0, Strange()),
)

RIGHT_LINE = (1, 2, 3)

# What is no tuple of one to eight lines, each behind the place that is told of it.
WRONG_LINES = tuple(
    [((), value) for value in NO_ROWS + [1, [RIGHT_LINE], (RIGHT_LINE,) * 9, (None,) * 9]]
    + [((0,), (value,)) for value in NO_LINES]
    + [((1,), (RIGHT_LINE, value, None)) for value in NO_LINES]
    + [((7,), (RIGHT_LINE,) * 7 + (value,)) for value in NO_LINES]
    # A single line in place of a tuple of lines.
    + [((0,), RIGHT_LINE)]
    # A wrong line is told ahead of a missing common point.
    + [((2,), ((1, 0, 0), (-1, 0, -1), (0, 0, 0)))]
)

# Two lines without a common point; three of which each two have one, but all three none.
APART = ((1, 0, 0), (-1, 0, -1))
AROUND = ((1, 0, 0), (0, 1, 0), (-1, -1, -1))

# What is no shape, each behind the place that is told of it.
NO_SHAPES = WRONG_LINES + (((), APART), ((), AROUND))

# What is no game, each behind the place that is told of it.
NO_GAMES = tuple(
    [((), value) for value in NO_ROWS + [1, [((1, 1),)], (((1, 1),),) * 5, (None,) * 5]]
    + [((0,), (value,)) for value in NO_ROWS + [1, [(1, 1)], ((1, 1),) * 5, (None,) * 5]]
    + [((1,), (((1, 1),), value, None)) for value in NO_ROWS + [1, [(1, 1)], ((1, 1),) * 2, (None,) * 5]]
    + [((2,), (((1, 1),) * 2, ((1, 1),) * 2, ((1, 1),)))]
    + [((0, 0), ((value,),)) for value in NO_FRACTIONS]
    + [((0, 1), (((1, 1), value, None), None)) for value in NO_FRACTIONS]
    + [((1, 0), (((1, 1), (1, 2)), (value, (1, 1)))) for value in NO_FRACTIONS]
    + [((3, 3), (((1, 1),) * 4,) * 3 + (((1, 1),) * 3 + (value,),)) for value in NO_FRACTIONS]
    # All of an act is told ahead of the next one.
    + [((0, 1), (((1, 1), (2, 4)), ((1, 1),))), ((1,), (((1, 1),), ((2, 4), (1, 1))))]
)


def pair(value):
    """The FRACTION of one of Python's own."""
    return (Fraction(value).numerator, Fraction(value).denominator)


def own(things):
    """A tuple of FRACTIONs in Python's own."""
    return tuple(Fraction(*thing) for thing in things)


def has_point(walls):
    """Whether some point has A X + B Y at most C by each wall: Y is taken out, then X."""
    uppers = [(Fraction(a, b), Fraction(c, b)) for a, b, c in walls if b > 0]
    lowers = [(Fraction(a, b), Fraction(c, b)) for a, b, c in walls if b < 0]
    rest = [(a, c) for a, b, c in walls if b == 0]
    rest += [(a - d, c - e) for a, c in uppers for d, e in lowers]
    most = [Fraction(c) / a for a, c in rest if a > 0]
    least = [Fraction(c) / a for a, c in rest if a < 0]
    if any(a == 0 and c < 0 for a, c in rest):
        return False
    return not most or not least or max(least) <= min(most)


def let_by(walls, x, y):
    """Whether each wall lets the point (x, y)."""
    return all(a * x + b * y <= c for a, b, c in walls)


def crossings(lines):
    """The points at which two lines that are no multiples are both tight."""
    found = []
    for (a, b, c), (d, e, f) in product(lines, repeat=2):
        below = a * e - b * d
        if below:
            found.append((Fraction(c * e - b * f, below), Fraction(a * f - c * d, below)))
    return found


def own_corners(lines):
    """All corners, each once, in Python's own fractions."""
    return {(x, y) for x, y in crossings(lines) if let_by(lines, x, y)}


HALF_PLANE = ((2, 3, 5),)
STRIP = ((1, 2, 3), (-1, -2, 1))
WHOLE_LINE = ((3, -1, 2), (-3, 1, -2))
SKEW_LINE = ((2, 4, 6), (-1, -2, -3))
CORNER = ((2, 0, 1), (0, 2, 1))
HALF_STRIP = ((1, 0, 2), (-1, 0, 1), (0, 1, 0))
RAY = ((1, 1, 1), (-1, -1, -1), (1, -1, 3))
TRIANGLE = ((-1, 0, 0), (0, -1, 0), (2, 3, 6))
SQUARE = ((1, 0, 1), (-1, 0, 1), (0, 1, 1), (0, -1, 1))
SEGMENT = ((1, 2, 2), (-1, -2, -2), (1, 0, 2), (-1, 0, 0))
SINGLE_POINT = ((1, 0, 1), (-1, 0, -1), (0, 3, 1), (0, -3, -1))
POINT_OF_THREE = ((1, 0, 0), (0, 1, 0), (-1, -1, 0))
TOLD_TWICE = ((1, 0, 1), (0, 1, 1), (1, 0, 1), (0, 1, 1))
MULTIPLES = ((2, 2, 4), (1, 1, 2), (3, 3, 6), (-1, 0, 0))
PARALLEL = ((1, 1, 5), (1, 1, 3), (1, 1, 4), (2, 2, 9))
FAN = ((1, 0, 0), (1, 1, 0), (0, 1, 0), (-1, 1, 0), (2, 1, 0), (1, 2, 0))
OCTAGON = (
    (1, 0, 5), (1, 1, 7), (0, 1, 5), (-1, 1, 7), (-1, 0, 5), (-1, -1, 7), (0, -1, 5), (1, -1, 7),
)
GREAT = ((1000, 999, 1000), (-999, -1000, 1000), (-1000, 1000, -1000))
UNEVEN = ((1000, 999, 1000), (-997, -1000, 1000), (-1000, 983, -991))
FAR = ((1000, 999, -1000), (-999, -998, 1000), (1, 1, 1000))

NAMED_SHAPES = (
    HALF_PLANE, STRIP, WHOLE_LINE, SKEW_LINE, CORNER, HALF_STRIP, RAY, TRIANGLE, SQUARE, SEGMENT, SINGLE_POINT,
    POINT_OF_THREE, TOLD_TWICE, MULTIPLES, PARALLEL, FAN, OCTAGON, GREAT,
    UNEVEN, FAR,
)

LITTLE_LINES = tuple(
    (a, b, c) for a, b, c in product((-1, 0, 1), repeat=3) if (a, b) != (0, 0)
)


def made_lines(many, seed):
    """So many rows of one to eight lines with little numbers, always the same for one seed."""
    drawn = Random(seed)
    directions = [(a, b) for a, b in product(range(-3, 4), repeat=2) if (a, b) != (0, 0)]
    rows = []
    for place in range(many):
        size = 1 + place % 8
        rows.append(tuple(drawn.choice(directions) + (drawn.randint(-2, 6),) for _ in range(size)))
    return rows


MADE_SHAPES = tuple(row for row in made_lines(160, 5) if has_point(row))
SHAPES = NAMED_SHAPES + MADE_SHAPES


def made_games(many, seed):
    """So many games of all sizes, always the same for one seed."""
    drawn = Random(seed)
    games = []
    for place in range(many):
        acts, answers = 1 + place % 4, 1 + place // 4 % 4
        # Few unlike numbers, so that sums are often alike or nought.
        most, below = drawn.choice(((1, 1), (2, 1), (9, 1), (5, 3), (10 ** 40, 10 ** 20)))
        numbers = [pair(Fraction(drawn.randint(-most, most), drawn.randint(1, below))) for _ in range(16)]
        games.append(tuple(tuple(numbers[4 * act:4 * act + answers]) for act in range(acts)))
    return games


def whole_game(*acts):
    """The game of rows of integers."""
    return tuple(tuple((number, 1) for number in act) for act in acts)


PENNIES = whole_game((1, -1), (-1, 1))
STONES = whole_game((0, 1, -1), (-1, 0, 1), (1, -1, 0))
DIAGONAL = whole_game((1, 0, 0, 0), (0, 1, 0, 0), (0, 0, 1, 0), (0, 0, 0, 1))
NOUGHTS = whole_game((0, 0), (0, 0))
ONE_NUMBER = (((-7, 3),),)
ONE_ACT = whole_game((2, 1))
ONE_ANSWER = whole_game((2,), (-3,), (5,))
ALIKE = whole_game((1, 2), (1, 2), (1, 2))
NAMED_GAMES = (PENNIES, STONES, DIAGONAL, NOUGHTS, ONE_NUMBER, ONE_ACT, ONE_ANSWER, ALIKE)
LITTLE_GAMES = tuple(
    whole_game(numbers[:2], numbers[2:]) for numbers in product((-1, 0, 1), repeat=4)
)
GAMES = NAMED_GAMES + LITTLE_GAMES + tuple(made_games(96, 7))


class RefusalCase(unittest.TestCase):
    """Test cases that ask whether calls are refused as told."""

    def refused(self, error, call, *given, **named):
        """The error that the call raises, which must be of this very class."""
        with self.assertRaises(error) as caught:
            call(*given, **named)
        self.assertIs(type(caught.exception), error)
        return caught.exception

    def refused_value(self, error, value, call, *given):
        """The call is refused with an error that bears this very value."""
        self.assertIs(self.refused(error, call, *given).value, value)

    def refused_place(self, place, error, call, *given):
        """The call is refused with an error that bears this place."""
        found = self.refused(error, call, *given).place
        self.assertEqual(found, place)
        self.assertIs(type(found), tuple)

    def each_refused(self, error, wrong, call, right, number):
        """Each wrong value is refused as this parameter, all others being right."""
        for value in wrong:
            given = list(right)
            given[number] = value
            self.refused_value(error, value, call, *given)
