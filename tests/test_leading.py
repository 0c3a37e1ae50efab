"""Promises 5, 25, 26 and 27: led or kept out, with papers for either; walls; line by line."""

import unittest
from fractions import Fraction
from itertools import combinations
from math import gcd, lcm

from tests.common import (
    CORNER, EXAMPLE_PAYS, FAN, HALF_ROOT, LITTLE_LINES, NAMED_PAYS, NOUGHT_ROOT, NO_HALVES, NO_PARTS, NO_PAYS,
    NO_SHAPES, NO_TURNS, NO_WALLS, OCTAGON, ONE_ACT_PAYS, ONE_ANSWER_PAYS, OTHER_KINDS, POINT_OF_THREE, SHAPES,
    SINGLE_POINT, STRIP, UNIT_ROOT, RefusalCase, Strange, has_point, made_pays, own_lets_all, own_mean, own_turns, pair,
    turn_cases,
)
from withinshapes.chains import chain_of, is_chain, is_gap
from withinshapes.ends import greatest_along
from withinshapes.errors import BadParameter, BadPays, BadShape
from withinshapes.games import worth
from withinshapes.leading import (
    is_border_of, is_lead, is_led, lead, least_part, led_lines, led_turns, wall_of,
)
from withinshapes.turns import game_at

AXES = ((1, 0, 0), (0, 1, 0))
LEFT = ((1, 0, 0),)
BOTH = ((0, 1), (0, 1))
ALONE = ((0,), (0,))
EVEN = ((1, 2), (1, 2))
SINGLE = (((3, -4),),)
PAIR = (((-2, 1), (1, 0)),)
WHOLE = (NOUGHT_ROOT, UNIT_ROOT)
TOLD = (
    (WHOLE + (BOTH,),),
    ((NOUGHT_ROOT, HALF_ROOT, BOTH), (HALF_ROOT, UNIT_ROOT, BOTH)),
    (WHOLE + (BOTH,),),
)

ALL_PAYS = NAMED_PAYS + tuple(made_pays(32, 21)) + tuple(made_pays(16, 22, 6))
CASES = [(pays, shape) for at, pays in enumerate(ALL_PAYS) for shape in SHAPES[at % 8::8]]
TURNS = turn_cases(ALL_PAYS[::2])
FRACTIONS = [Fraction(n, d) for d in range(1, 7) for n in range(d + 1) if gcd(n, d) == 1]


def line_game(pays, line):
    """The numbers A X + B Y of all pays, as a game."""
    return tuple(tuple((line[0] * x + line[1] * y, 1) for x, y in act) for act in pays)


def own_wall(shape, turn, t):
    """The turn's line at t, times the least integer that makes its numbers integers."""
    one, other = shape[turn[0]], shape[turn[1]]
    t = Fraction(*t)
    numbers = [(1 - t) * first + t * second for first, second in zip(one, other)]
    times = lcm(*[number.denominator for number in numbers])
    return tuple(int(number * times) for number in numbers)


def meets_segment(shape, first, last):
    """Whether a point of the way from one point to another one lies in the shape."""
    # A line for each side, in the part of the way that lies behind.
    way = [(a * (last[0] - first[0]) + b * (last[1] - first[1]), 0, c - a * first[0] - b * first[1])
           for a, b, c in shape]
    if any(a == 0 and c < 0 for a, _, c in way):
        return False
    return has_point([row for row in way if row[0]] + [(1, 0, 1), (-1, 0, 0)])


def keeps_out(pays, shape, paper):
    """Whether a wall lets the whole shape, and no act's mean by the odds."""
    (a, b, c), odds = paper
    means = [own_mean(act, odds) for act in pays]
    return (a, b) != (0, 0) and own_lets_all((a, b, c), shape) and all(a * x + b * y > c for x, y in means)


class LeadTest(RefusalCase):
    def test_either_is_what_it_says(self):
        words = {"led": 0, "out": 0}
        for pays, shape in CASES:
            word, paper = lead(pays, shape)
            words[word] += 1
            if word == "led":
                told = own_turns(shape)
                self.assertEqual(len(paper), len(told))
                for turn, chain in zip(told, paper):
                    self.assertIs(is_chain(pays, shape, turn, chain), True)
            else:
                self.assertTrue(keeps_out(pays, shape, paper))
            self.assertIs(is_led(pays, shape), word == "led")
            self.assertIs(is_lead(pays, shape, (word, paper)), True)
        self.assertGreater(min(words.values()), 150)

    def test_beside_the_worth_of_the_turns_at_many_fractions(self):
        for pays, shape in CASES[::9]:
            games = [game_at(pays, shape, turn, pair(t)) for turn in own_turns(shape) for t in FRACTIONS]
            if any(worth(game)[0][0] > 0 for game in games):
                self.assertIs(is_led(pays, shape), False)

    def test_the_first_example(self):
        self.assertIs(is_led(EXAMPLE_PAYS, CORNER), True)
        self.assertIs(is_led(EXAMPLE_PAYS, LEFT), False)
        self.assertIs(is_led(ONE_ACT_PAYS, CORNER), False)
        self.assertEqual(lead(EXAMPLE_PAYS, CORNER)[0], "led")
        self.assertIs(is_lead(EXAMPLE_PAYS, CORNER, ("led", TOLD)), True)

    def test_the_example_of_part_f(self):
        self.assertIs(is_lead(EXAMPLE_PAYS, LEFT, ("out", ((1, 0, 0), EVEN))), True)
        self.assertIs(is_lead(ONE_ACT_PAYS, CORNER, ("out", ((2, 0, 1), ((1, 1), (0, 1))))), True)
        for line in AXES:
            self.assertIs(is_led(ONE_ANSWER_PAYS, (line,)), True)
        self.assertIs(is_led(ONE_ANSWER_PAYS, AXES), False)
        self.assertIs(is_lead(ONE_ANSWER_PAYS, AXES, ("out", ((1, 1, 0), ((1, 1),)))), True)

    def test_half_planes_by_what_their_game_comes_to(self):
        found = {True: 0, False: 0}
        for pays in ALL_PAYS:
            for a, b, c in LITTLE_LINES + ((3, -2, 4), (-5, 1, -3), (2, 7, 9)):
                right = Fraction(*worth(line_game(pays, (a, b, c)))[0]) <= c
                found[right] += 1
                self.assertIs(is_led(pays, ((a, b, c),)), right)
        self.assertGreater(min(found.values()), 200)

    def test_just_so(self):
        # The worth of X is 1/2: twice X at most 1 is led, at most 0 isn't.
        self.assertIs(is_led(EXAMPLE_PAYS, ((2, 0, 1),)), True)
        self.assertIs(is_led(EXAMPLE_PAYS, ((1000, 0, 500),)), True)
        self.assertIs(is_led(EXAMPLE_PAYS, ((1000, 0, 499),)), False)
        self.assertIs(is_led(EXAMPLE_PAYS, ((1000, 0, 500), (0, 1000, 500))), True)
        self.assertIs(is_led(EXAMPLE_PAYS, ((1000, 0, 500), (0, 1000, 499))), False)
        # The point (1/2, 1/2) itself is led, no other single point is.
        self.assertIs(is_led(EXAMPLE_PAYS, ((2, 0, 1), (-2, 0, -1), (0, 2, 1), (0, -2, -1))), True)
        self.assertIs(is_led(EXAMPLE_PAYS, ((3, 0, 1), (-3, 0, -1), (0, 3, 2), (0, -3, -2))), False)

    def test_a_single_act_leads_where_all_it_pays_lies(self):
        for pays in (SINGLE, PAIR):
            for shape in SHAPES[::3]:
                told = all(a * x + b * y <= c for a, b, c in shape for x, y in pays[0])
                self.assertIs(is_led(pays, shape), told)

    def test_a_single_answer_leads_where_the_hull_meets_the_shape(self):
        for pays in ((((0, 1),), ((1, 0),)), (((2, 3),), ((-2, -1),)), (((3, 3),), ((3, 3),))):
            (first,), (last,) = pays
            for shape in SHAPES[::2]:
                self.assertIs(is_led(pays, shape), meets_segment(shape, first, last))

    def test_led_exactly_if_for_all_odds_there_are_dice(self):
        shares = [((1, 1), (0, 1)), ((0, 1), (1, 1)), EVEN, ((1, 3), (2, 3)), ((5, 7), (2, 7))]
        for pays, shape in CASES:
            if len(pays) == 2 and len(pays[0]) == 2:
                word, paper = lead(pays, shape)
                if word == "led":
                    for odds in shares:
                        self.assertTrue(meets_segment(shape, *[own_mean(act, odds) for act in pays]))
                else:
                    self.assertFalse(meets_segment(shape, *[own_mean(act, paper[1]) for act in pays]))

    def test_each_half_plane_with_a_led_shape_is_led(self):
        walls = LITTLE_LINES + ((3, 2, 12), (-1, 4, 7), (2, 1, 3), (1, -3, 6))
        for pays, shape in CASES[::4]:
            if is_led(pays, shape):
                for wall in walls:
                    if is_border_of(shape, wall):
                        self.assertIs(is_led(pays, (wall,)), True)
            else:
                wall = lead(pays, shape)[1][0]
                if max(abs(number) for number in wall) <= 1000:
                    self.assertIs(is_led(pays, (wall,)), False)

    def test_facts(self):
        for pays, shape in CASES[::3]:
            led = is_led(pays, shape)
            if led:
                # Shapes with all its points, more acts, fewer answers.
                self.assertTrue(all(is_led(pays, shape[:at] + shape[at + 1:]) for at in range(len(shape)) if shape[1:]))
                self.assertTrue(is_led(pays, tuple((a, b, c + 1) for a, b, c in shape if c < 1000) or shape))
                if len(pays) < 4:
                    self.assertTrue(is_led(pays + pays[:1], shape))
                    self.assertTrue(is_led((((100, -100),) * len(pays[0]),) + pays, shape))
                if len(pays[0]) > 1:
                    self.assertTrue(is_led(tuple(act[1:] for act in pays), shape))
                    self.assertTrue(is_led(tuple(act[:-1] for act in pays), shape))
            elif len(pays) > 1:
                self.assertFalse(is_led(pays[1:], shape))

    def test_pushed_by_integers(self):
        for pays, shape in CASES[::5]:
            for right, up in ((1, -2), (-7, 3)):
                pushed = tuple(tuple((x + right, y + up) for x, y in act) for act in pays)
                moved = tuple((a, b, c + a * right + b * up) for a, b, c in shape)
                if max(abs(number) for act in pushed for pay in act for number in pay) <= 100:
                    if max(abs(line[2]) for line in moved) <= 1000:
                        self.assertIs(is_led(pushed, moved), is_led(pays, shape))

    def test_regrets(self):
        # Neither act is better in the long run, whatever is answered.
        for wishes in (((1, 0), (0, 1)), ((5, -3, 2), (4, 4, -50)), ((0, 0, 0, 7), (1, 1, 1, -8)), ((3,), (9,))):
            one, other = wishes
            pays = (tuple((0, b - a) for a, b in zip(one, other)), tuple((a - b, 0) for a, b in zip(one, other)))
            self.assertIs(is_led(pays, AXES), True)


class IsLeadTest(RefusalCase):
    def taken(self, value, case=(EXAMPLE_PAYS, CORNER)):
        self.assertIs(is_lead(*case, value), True)

    def left(self, value, case=(EXAMPLE_PAYS, CORNER)):
        self.assertIs(is_lead(*case, value), False)

    def test_chains_for_each_turn_in_order(self):
        self.taken(("led", TOLD))
        for chains in (TOLD[:2], TOLD[1:], TOLD[:1] + TOLD[2:], TOLD + TOLD[:1], (), (TOLD,), TOLD[0], list(TOLD),
                       (TOLD[0], TOLD[0], TOLD[2]), (TOLD[0], None, TOLD[2]), (None, TOLD[1], TOLD[2]),
                       (TOLD[0], TOLD[1], None), (TOLD[0], TOLD[1], ()), (TOLD[0], TOLD[1][::-1], TOLD[2])):
            self.left(("led", chains))
        # A chain for another turn that does as well.
        self.taken(("led", (TOLD[1], TOLD[1], TOLD[1])))
        self.left(("out", TOLD))
        self.left(("led", ((1, 0, 0), EVEN)))

    def test_shapes_that_are_kept_out_have_no_chains(self):
        self.left(("led", (TOLD[0],)), (EXAMPLE_PAYS, LEFT))
        self.left(("led", ()), (EXAMPLE_PAYS, LEFT))
        for pays, shape in CASES[::6]:
            word, paper = lead(pays, shape)
            self.left(({"led": "out", "out": "led"}[word], paper), (pays, shape))
            if word == "led":
                self.left((word, paper[1:]), (pays, shape))

    def test_walls_of_any_size(self):
        case = (EXAMPLE_PAYS, LEFT)
        for wall in ((1, 0, 0), (2, 0, 0), (3, 0, 1), (10 ** 40, 0, 10 ** 39), (1000, 0, 499)):
            self.taken(("out", (wall, EVEN)), case)
        # Walls that do not let all of the shape, or let an act's mean, just so or by far.
        for wall in ((1, 0, -1), (-1, 0, 0), (0, 1, 0), (1, 1, 0), (1000, 1, 0), (1, 0, 1), (2, 0, 1), (1000, 0, 500)):
            self.left(("out", (wall, EVEN)), case)
        for odds in (((1, 3), (2, 3)), ((99, 100), (1, 100))):
            self.taken(("out", ((1, 0, 0), odds)), case)
        for odds in (((1, 1), (0, 1)), ((0, 1), (1, 1))):
            self.left(("out", ((1, 0, 0), odds)), case)

    def test_each_act_must_be_beyond(self):
        pays = (((1, 0), (1, 0)), ((0, 0), (2, 0)), ((5, 5), (-5, 5)))
        self.left(("out", ((1, 0, 0), EVEN)), (pays, LEFT))
        self.taken(("out", ((1, 0, 0), EVEN)), (pays[:2], LEFT))
        self.left(("out", ((1, 0, 0), ((1, 1), (0, 1)))), (pays[:2], LEFT))
        self.taken(("out", ((1, 0, 0), ((1, 1), (0, 1)))), (pays[::2], LEFT))

    def test_papers_that_are_none(self):
        case = (EXAMPLE_PAYS, LEFT)
        right = ("out", ((1, 0, 0), EVEN))
        self.taken(right, case)
        for value in OTHER_KINDS + (1, right[:1], right + (None,), list(right), right[::-1], right[1], ("Out", right[1]),
                                    ("", right[1]), (b"out", right[1]), (Strange(), right[1]), ("led", Strange())):
            self.left(value, case)
            self.left(value)
        for value in OTHER_KINDS:
            self.left((value, right[1]), case)
            self.left((value, TOLD))
            self.left(("out", value), case)
            self.left(("led", value), case)
            self.left(("led", value))
        for value in NO_WALLS:
            self.left(("out", (value, EVEN)), case)
        for value in NO_HALVES:
            self.left(("out", ((1, 0, 0), value)), case)
        for value in (right[1][:1], right[1] + (None,), list(right[1]), right[1][::-1]):
            self.left(("out", value), case)

    def test_another_shape(self):
        self.left(("led", TOLD), (EXAMPLE_PAYS, AXES))
        self.left(("out", ((1, 0, 0), EVEN)), (EXAMPLE_PAYS, ((1, 0, 1),)))
        self.taken(("out", ((1, 0, 0), EVEN)), (EXAMPLE_PAYS, ((1, 0, -1), (0, 1, 5))))
        self.taken(("out", ((1, 0, 0), EVEN)), (EXAMPLE_PAYS, ((1, 1, 0), (1, -1, 0))))


class BorderTest(RefusalCase):
    def test_walls_that_let_all(self):
        walls = LITTLE_LINES + ((2, 3, 5), (4, 6, 10), (10 ** 40, 0, 10 ** 40), (-(10 ** 40), 10 ** 40, 7), (5, -3, 10 ** 9))
        found = {True: 0, False: 0}
        for shape in SHAPES[::2]:
            for wall in walls:
                right = own_lets_all(wall, shape)
                found[right] += 1
                self.assertIs(is_border_of(shape, wall), right)
        self.assertGreater(min(found.values()), 200)

    def test_just_so_and_a_little_less(self):
        for shape in SHAPES:
            for a, b in ((1, 0), (-2, 3), (1, 1), (0, -1)):
                end = greatest_along(shape, a, b)
                if end is None:
                    self.assertIs(is_border_of(shape, (a, b, 10 ** 40)), False)
                else:
                    above, below = end
                    self.assertIs(is_border_of(shape, (a * below, b * below, above)), True)
                    self.assertIs(is_border_of(shape, (a * below, b * below, above - 1)), False)
                    great = 10 ** 30
                    self.assertIs(is_border_of(shape, (a * below * great, b * below * great, above * great - 1)), False)

    def test_its_own_lines_and_the_lines_of_its_turns(self):
        for shape in SHAPES:
            for line in shape:
                self.assertIs(is_border_of(shape, line), True)
            for turn in own_turns(shape):
                for t in FRACTIONS:
                    wall = own_wall(shape, turn, pair(t))
                    if wall[:2] != (0, 0):
                        self.assertIs(is_border_of(shape, wall), True)

    def test_any_value_is_judged(self):
        for value in NO_WALLS:
            self.assertIs(is_border_of(CORNER, value), False)
            self.assertIs(is_border_of(STRIP, value), False)

    def test_wrong_shapes(self):
        for place, value in NO_SHAPES:
            self.refused_place(place, BadShape, is_border_of, value, (1, 0, 0))
        self.refused_place((), BadShape, is_border_of, None, None)


class WallOfTest(RefusalCase):
    def test_gaps_as_papers(self):
        many = 0
        for pays, shape, turn in TURNS:
            word, gap = chain_of(pays, shape, turn)
            if word == "gap":
                many += 1
                wall, odds = wall_of(pays, shape, turn, gap)
                self.assertEqual((wall, odds), (own_wall(shape, turn, gap[0]), gap[1]))
                self.assertTrue(keeps_out(pays, shape, (wall, odds)))
                self.assertIs(is_lead(pays, shape, ("out", (wall, odds))), True)
        self.assertGreater(many, 100)

    def test_the_least_integer_that_makes_integers(self):
        pays = (((100, 100),),)
        for t, wall in (((0, 1), (2, 0, 1)), ((1, 1), (0, 2, 1)), ((1, 2), (1, 1, 1)), ((1, 3), (4, 2, 3)),
                        ((1, 4), (3, 1, 2)), ((2, 5), (6, 4, 5)), ((1, 10 ** 40), (10 ** 40 - 1, 1, 5 * 10 ** 39))):
            self.assertEqual(wall_of(pays, CORNER, (0, 1), (t, ((1, 1),))), (wall, ((1, 1),)))
        # What all three have in common stays, where the line is one of integers as it is.
        shape = ((4, 0, 2), (0, 6, 2))
        self.assertEqual(wall_of(pays, shape, (0, 0), ((2, 3), ((1, 1),))), ((4, 0, 2), ((1, 1),)))
        self.assertEqual(wall_of(pays, shape, (0, 1), ((1, 2), ((1, 1),))), ((2, 3, 2), ((1, 1),)))
        self.assertEqual(wall_of(pays, shape, (0, 1), ((1, 3), ((1, 1),))), ((8, 6, 6), ((1, 1),)))

    def test_any_gap_that_is_one(self):
        for odds in (EVEN, ((1, 3), (2, 3)), ((99, 100), (1, 100))):
            self.assertEqual(wall_of(EXAMPLE_PAYS, LEFT, (0, 0), ((0, 1), odds)), ((1, 0, 0), odds))

    def test_what_is_no_gap(self):
        case = [EXAMPLE_PAYS, LEFT, (0, 0), None]
        right = ((0, 1), EVEN)
        self.assertIs(is_gap(*case[:3], right), True)
        wrong = OTHER_KINDS + (1, right[:1], right + (None,), list(right), right[::-1], ((0, 1), ((1, 1), (0, 1))))
        self.each_refused(BadParameter, wrong, wall_of, case, 3)
        self.each_refused(BadParameter, [(value, EVEN) for value in NO_PARTS], wall_of, case, 3)
        self.each_refused(BadParameter, [((0, 1), value) for value in NO_HALVES], wall_of, case, 3)
        # The shape is led: nothing is a gap.
        for turn in own_turns(CORNER):
            self.refused_value(BadParameter, right, wall_of, EXAMPLE_PAYS, CORNER, turn, right)

    def test_lines_that_are_nought_have_no_gap(self):
        for pays in (SINGLE, EXAMPLE_PAYS, ONE_ACT_PAYS):
            gap = ((1, 2), ((1, len(pays[0])),) * len(pays[0]))
            self.refused_value(BadParameter, gap, wall_of, pays, SINGLE_POINT, (0, 1), gap)


class LineByLineTest(RefusalCase):
    def test_lines_that_are_led_alone(self):
        for pays, shape in CASES[::2]:
            told = tuple(at for at, (a, b, c) in enumerate(shape)
                         if Fraction(*worth(line_game(pays, (a, b)))[0]) <= c)
            self.assertEqual(led_lines(pays, shape), told)

    def test_turns_whose_games_are_met(self):
        for pays, shape in CASES[::2]:
            told = tuple(turn for turn in own_turns(shape) if chain_of(pays, shape, turn)[0] == "chain")
            self.assertEqual(led_turns(pays, shape), told)
            self.assertIs(is_led(pays, shape), told == own_turns(shape))

    def test_the_least_part_that_is_kept_out(self):
        sizes = {None: 0, 1: 0, 2: 0}
        for pays, shape in CASES:
            lots = [lot for size in (1, 2) for lot in combinations(range(len(shape)), size)]
            told = next((lot for lot in lots if not is_led(pays, tuple(shape[at] for at in lot))), None)
            self.assertEqual(least_part(pays, shape), told)
            self.assertIs(told is None, is_led(pays, shape))
            sizes[told and len(told)] += 1
        self.assertGreater(min(sizes.values()), 10)

    def test_by_hand(self):
        self.assertEqual(led_lines(EXAMPLE_PAYS, CORNER), (0, 1))
        self.assertEqual(led_turns(EXAMPLE_PAYS, CORNER), ((0, 0), (0, 1), (1, 1)))
        self.assertIsNone(least_part(EXAMPLE_PAYS, CORNER))
        self.assertEqual(led_lines(EXAMPLE_PAYS, LEFT), ())
        self.assertEqual(led_turns(EXAMPLE_PAYS, LEFT), ())
        self.assertEqual(least_part(EXAMPLE_PAYS, LEFT), (0,))
        self.assertEqual(led_lines(ONE_ANSWER_PAYS, AXES), (0, 1))
        self.assertEqual(led_turns(ONE_ANSWER_PAYS, AXES), ((0, 0), (1, 1)))
        self.assertEqual(least_part(ONE_ANSWER_PAYS, AXES), (0, 1))
        self.assertEqual(least_part(ONE_ANSWER_PAYS, ((1, 0, 5),) + AXES), (1, 2))
        self.assertEqual(least_part(ONE_ANSWER_PAYS, ((1, 0, 5),) + AXES + ((0, 1, -1),)), (3,))
        # A line that is tight nowhere can be led or not, as if it stood alone.
        self.assertEqual(led_lines(ONE_ACT_PAYS, ((1, 0, 0), (1, 0, 1))), (1,))
        self.assertEqual(led_turns(ONE_ACT_PAYS, ((1, 0, 0), (1, 0, 1))), ())

    def test_lines_told_twice_and_opposite_lines(self):
        self.assertEqual(led_lines(EXAMPLE_PAYS, LEFT * 8), ())
        self.assertEqual(least_part(EXAMPLE_PAYS, LEFT * 8), (0,))
        self.assertEqual(least_part(EXAMPLE_PAYS, ((2, 0, 1), (-2, 0, -1), (0, 2, 1), (0, -2, -1))), None)
        self.assertEqual(least_part(SINGLE, SINGLE_POINT), (0,))
        self.assertEqual(led_lines(SINGLE, SINGLE_POINT), (1, 2))

    def test_many_lines_through_one_point(self):
        for pays in (EXAMPLE_PAYS, ONE_ANSWER_PAYS, (((-5, -5), (-4, 1)), ((1, -4), (-1, -1)))):
            for shape in (FAN, OCTAGON, POINT_OF_THREE):
                part = least_part(pays, shape)
                self.assertIs(part is None, is_led(pays, shape))


class WrongParametersTest(RefusalCase):
    """Pays, then the shape, then the rest."""

    CALLS = (
        (is_led, ()), (lead, ()), (is_lead, (("led", TOLD),)), (led_lines, ()), (led_turns, ()), (least_part, ()),
        (wall_of, ((0, 0), ((0, 1), EVEN))),
    )

    def test_wrong_pays(self):
        for call, more in self.CALLS:
            for place, value in NO_PAYS:
                self.refused_place(place, BadPays, call, value, LEFT, *more)
            for place, value in NO_PAYS[::40]:
                self.refused_place(place, BadPays, call, value, None, *[None for _ in more])

    def test_wrong_shapes(self):
        for call, more in self.CALLS:
            for place, value in NO_SHAPES:
                self.refused_place(place, BadShape, call, EXAMPLE_PAYS, value, *more)
            for place, value in NO_SHAPES[::40]:
                self.refused_place(place, BadShape, call, EXAMPLE_PAYS, value, *[None for _ in more])

    def test_wrong_turns(self):
        case = [EXAMPLE_PAYS, CORNER, None, ((0, 1), EVEN)]
        self.each_refused(BadParameter, NO_TURNS + ((2, 2), (0, 2)), wall_of, case, 2)
        self.each_refused(BadParameter, NO_TURNS, wall_of, case[:3] + [None], 2)


if __name__ == "__main__":
    unittest.main()
