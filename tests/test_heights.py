"""Promise 35: the least C for which a half plane is led, with DICE and ODDS that show it."""

import unittest
from fractions import Fraction
from itertools import product

from tests.common import (
    CORNER, EXAMPLE_PAYS, NAMED_PAYS, NO_FRACTIONS, NO_HALVES, NO_PAYS, ONE_ACT_PAYS, ONE_ANSWER_PAYS, OTHER_KINDS,
    SHAPES, TALL_PAYS, WIDE_PAYS, RefusalCase, Strange, made_pays, own, own_mean, pair,
)
from withinshapes.errors import BadParameter, BadPays
from withinshapes.games import worth
from withinshapes.heights import height, heights, is_height
from withinshapes.leading import is_led, led_lines

EVEN = ((1, 2), (1, 2))
FIRST, LAST = ((1, 1), (0, 1)), ((0, 1), (1, 1))
ALL_PAYS = NAMED_PAYS + tuple(made_pays(32, 61)) + tuple(made_pays(16, 62, 100))
WAYS = tuple(way for way in product((-2, -1, 0, 1), repeat=2) if way != (0, 0)) + (
    (3, 7), (-5, 2), (1000, 0), (0, -1000), (1000, 999), (-1000, 1000),
)
NO_NUMBERS = OTHER_KINDS + (1001, -1001, 10 ** 40, -10 ** 40, (1, 1), ((1, 1),), "5")


def pays_at_most(pays, a, b, most, dice):
    """Whether each answer pays at most so much along a way with the DICE."""
    told = [own_mean([act[answer] for act in pays], dice) for answer in range(len(pays[0]))]
    return all(a * x + b * y <= most for x, y in told)


def pays_at_least(pays, a, b, least, odds):
    """Whether each act pays at least so much along a way by the ODDS."""
    return all(a * x + b * y >= least for x, y in (own_mean(act, odds) for act in pays))


def are_parts(value, many):
    """Whether a value is a tuple of so many FRACTIONs from nought on, together one."""
    parts = own(value)
    return len(value) == many and min(parts) >= 0 and sum(parts) == 1 and tuple(pair(part) for part in parts) == value


def shows(pays, a, b, value):
    """Whether a triple is (C, DICE, ODDS) for a way."""
    end, dice, odds = value
    right = pair(Fraction(*end)) == end and are_parts(dice, len(pays)) and are_parts(odds, len(pays[0]))
    end = Fraction(*end)
    return right and pays_at_most(pays, a, b, end, dice) and pays_at_least(pays, a, b, end, odds)


class HeightTest(RefusalCase):
    def test_dice_and_odds_show_it(self):
        for pays in ALL_PAYS:
            for a, b in WAYS:
                found = height(pays, a, b)
                self.assertTrue(shows(pays, a, b, found))
                self.assertIs(is_height(pays, a, b, found), True)

    def test_the_worth_of_the_game_along_the_way(self):
        for pays in ALL_PAYS:
            for a, b in WAYS:
                game = tuple(tuple((a * x + b * y, 1) for x, y in act) for act in pays)
                self.assertEqual(height(pays, a, b)[0], worth(game)[0])

    def test_the_half_plane_is_led_just_so(self):
        many = 0
        for pays in ALL_PAYS:
            for a, b in WAYS:
                above, below = height(pays, a, b)[0]
                line = (a * below, b * below, above)
                if max(abs(number) for number in line) <= 999:
                    many += 1
                    self.assertIs(is_led(pays, (line,)), True)
                    self.assertIs(is_led(pays, (line[:2] + (above - 1,),)), False)
        self.assertGreater(many, 300)

    def test_heights_are_four(self):
        for pays in ALL_PAYS:
            told = tuple(height(pays, a, b)[0] for a, b in ((1, 0), (0, 1), (-1, 0), (0, -1)))
            self.assertEqual(heights(pays), told)

    def test_the_example(self):
        self.assertEqual(heights(EXAMPLE_PAYS), ((1, 2), (1, 2), (-1, 2), (-1, 2)))
        self.assertEqual(height(EXAMPLE_PAYS, 1, 0), ((1, 2), EVEN, EVEN))

    def test_twice_as_far(self):
        for pays in ALL_PAYS:
            for a, b in ((1, 0), (0, -1), (2, -3), (-4, -5)):
                end = Fraction(*height(pays, a, b)[0])
                for times in (2, 3, 200):
                    self.assertEqual(height(pays, times * a, times * b)[0], pair(times * end))

    def test_a_sum_of_two_ways_may_be_more_or_less(self):
        signs = set()
        for pays in ALL_PAYS:
            right, up = Fraction(*height(pays, 1, 0)[0]), Fraction(*height(pays, 0, 1)[0])
            both = Fraction(*height(pays, 1, 1)[0])
            signs.add((both > right + up) - (both < right + up))
        self.assertEqual(signs, {-1, 0, 1})

    def test_one_act_or_one_answer(self):
        for pays in ALL_PAYS:
            for a, b in WAYS:
                one = max(a * x + b * y for x, y in pays[0])
                self.assertEqual(height(pays[:1], a, b)[0], (one, 1))
                least = min(a * act[0][0] + b * act[0][1] for act in pays)
                self.assertEqual(height(tuple(act[:1] for act in pays), a, b)[0], (least, 1))
        self.assertEqual(heights(WIDE_PAYS), ((100, 1), (1, 1), (0, 1), (100, 1)))
        self.assertEqual(heights(TALL_PAYS), ((-100, 1), (0, 1), (-11, 1), (-100, 1)))

    def test_more_acts_and_more_answers(self):
        for pays in ALL_PAYS:
            for a, b in WAYS:
                end = Fraction(*height(pays, a, b)[0])
                if len(pays) > 1:
                    self.assertGreaterEqual(Fraction(*height(pays[1:], a, b)[0]), end)
                if len(pays[0]) > 1:
                    self.assertLessEqual(Fraction(*height(tuple(act[1:] for act in pays), a, b)[0]), end)

    def test_each_line_of_a_led_shape_reaches_its_height(self):
        led = 0
        for at, pays in enumerate(ALL_PAYS):
            for shape in SHAPES[at % 8::8]:
                told = tuple(n for n, (a, b, c) in enumerate(shape) if Fraction(*height(pays, a, b)[0]) <= c)
                self.assertEqual(led_lines(pays, shape), told)
                if is_led(pays, shape):
                    led += 1
                    self.assertEqual(len(told), len(shape))
        self.assertGreater(led, 50)

    def test_both_heights_are_not_enough(self):
        for line in ((1, 0, 0), (0, 1, 0)):
            self.assertLessEqual(height(ONE_ANSWER_PAYS, *line[:2])[0][0], 0)
        self.assertIs(is_led(ONE_ANSWER_PAYS, ((1, 0, 0), (0, 1, 0))), False)

    def test_the_ends_of_numbers(self):
        for a, b in ((1000, 1000), (-1000, -1000), (0, 1000), (1000, 0), (-1000, 0), (0, -1000)):
            self.assertEqual(height((((100, 100),),), a, b)[0], (100 * (a + b), 1))
            self.assertEqual(height(ONE_ACT_PAYS, a, b)[0], (max(a, b), 1))


class IsHeightTest(RefusalCase):
    CASE = (EXAMPLE_PAYS, 1, 0)

    def left(self, value, case=CASE):
        self.assertIs(is_height(*case, value), False)

    def test_any_dice_and_odds_that_do(self):
        case = (EXAMPLE_PAYS, 1, 1)
        for dice in (FIRST, LAST, EVEN, ((1, 3), (2, 3))):
            for odds in (FIRST, EVEN, ((10 ** 40, 10 ** 40 + 1), (1, 10 ** 40 + 1))):
                self.assertIs(is_height(*case, ((1, 1), dice, odds)), True)

    def test_just_so(self):
        self.assertIs(is_height(*self.CASE, ((1, 2), EVEN, EVEN)), True)
        for end in ((1, 3), (2, 3), (-1, 2), (0, 1), (1, 1), (10 ** 9 + 1, 2 * 10 ** 9), (10 ** 9 - 1, 2 * 10 ** 9)):
            self.left((end, EVEN, EVEN))
        for shares in (FIRST, LAST, ((1, 3), (2, 3)), ((499, 1000), (501, 1000))):
            self.left(((1, 2), shares, EVEN))
            self.left(((1, 2), EVEN, shares))

    def test_beside_its_own_sentence(self):
        found = {True: 0, False: 0}
        for pays in ALL_PAYS[::2]:
            for a, b in WAYS[::2]:
                end, dice, odds = height(pays, a, b)
                for other in ((1, 0), (0, 1), (-1, 1)):
                    more, others, likely = height(pays, *other)
                    for value in ((end, others, odds), (end, dice, likely), (more, dice, odds)):
                        right = shows(pays, a, b, value)
                        found[right] += 1
                        self.assertIs(is_height(pays, a, b, value), right)
        self.assertGreater(min(found.values()), 150)

    def test_values_that_are_none(self):
        right = ((1, 2), EVEN, EVEN)
        for value in OTHER_KINDS + (1, right[:2], right + (None,), list(right), right[::-1], EVEN, (Strange(),) * 3):
            self.left(value)
        for value in NO_FRACTIONS:
            self.left((value, EVEN, EVEN))
        for value in NO_HALVES:
            self.left(((1, 2), value, EVEN))
            self.left(((1, 2), EVEN, value))

    def test_dice_and_odds_of_other_numbers(self):
        alone = ((1, 1),)
        self.assertIs(is_height(ONE_ANSWER_PAYS, 1, 0, ((0, 1), FIRST, alone)), True)
        self.left(((0, 1), alone, FIRST), (ONE_ANSWER_PAYS, 1, 0))
        self.assertIs(is_height(ONE_ACT_PAYS, 1, 0, ((1, 1), alone, FIRST)), True)
        self.left(((1, 1), FIRST, alone), (ONE_ACT_PAYS, 1, 0))


class WrongParametersTest(RefusalCase):
    CALLS = ((height, ()), (is_height, (((1, 2), EVEN, EVEN),)))

    def test_wrong_pays(self):
        for place, value in NO_PAYS:
            self.refused_place(place, BadPays, heights, value)
            for call, more in self.CALLS:
                self.refused_place(place, BadPays, call, value, 1, 0, *more)
        self.refused_place((), BadPays, height, None, None, None)
        self.refused_place((0,), BadPays, is_height, (None,), 0, 0, None)

    def test_wrong_numbers(self):
        for call, more in self.CALLS:
            self.each_refused(BadParameter, NO_NUMBERS, call, [EXAMPLE_PAYS, None, 1, *more], 1)
            self.each_refused(BadParameter, NO_NUMBERS, call, [EXAMPLE_PAYS, 1, None, *more], 2)
            self.each_refused(BadParameter, NO_NUMBERS, call, [EXAMPLE_PAYS, 0, None, *more], 2)
            # The first wrong one is told.
            self.each_refused(BadParameter, NO_NUMBERS, call, [EXAMPLE_PAYS, None, 1001, *more], 1)

    def test_no_way(self):
        for call, more in self.CALLS:
            error = self.refused(BadParameter, call, EXAMPLE_PAYS, 0, 0, *more)
            self.assertEqual(error.value, 0)
            self.assertIs(type(error.value), int)
            self.refused_value(BadParameter, False, call, EXAMPLE_PAYS, False, 0, *more)
            self.refused_value(BadParameter, False, call, EXAMPLE_PAYS, 0, False, *more)

    def test_shapes_are_not_asked_for(self):
        self.refused_place((0, 0), BadPays, heights, CORNER)


if __name__ == "__main__":
    unittest.main()
