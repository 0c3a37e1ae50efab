"""Promise 34: DICE whose mean pay by odds lies in the shape, or a wall between the shape and all acts' means."""

import unittest
from fractions import Fraction

from tests.common import (
    CORNER, EXAMPLE_PAYS, HALF_PLANE, HALF_STRIP, NAMED_PAYS, NO_HALVES, NO_PAYS, NO_SHAPES, NO_WALLS, OCTAGON,
    ONE_ANSWER_PAYS, OTHER_KINDS, POINT_OF_THREE, RAY, SEGMENT, SHAPES, SINGLE_POINT, SQUARE, STRIP, TRIANGLE,
    WHOLE_LINE, RefusalCase, Strange, let_by, made_pays, own, own_lets_all, own_mean, pair, shares_for,
)
from withinshapes.against import dice_against, is_against
from withinshapes.errors import BadOdds, BadPays, BadShape
from withinshapes.keeping import paper_margin
from withinshapes.leading import is_lead, is_led, lead

EVEN = ((1, 2), (1, 2))
FIRST, LAST = ((1, 1), (0, 1)), ((0, 1), (1, 1))
ALONE = ((1, 1),)
LEFT = ((1, 0, 0),)
ALL_PAYS = NAMED_PAYS + tuple(made_pays(32, 51)) + tuple(made_pays(32, 52, 6))
CASES = [
    (pays, shape, odds)
    for at, pays in enumerate(ALL_PAYS)
    for number, shape in enumerate(SHAPES[at % 6::6])
    for odds in shares_for(len(pays[0]))[number % 3::3]
]


def acts_means(pays, odds):
    """The mean of each act's pays by the odds, in Python's own fractions."""
    return [own_mean(act, odds) for act in pays]


def dice_mean(pays, odds, dice):
    """The mean pay of the DICE by the odds, in Python's own fractions."""
    parts, means = own(dice), acts_means(pays, odds)
    return tuple(sum(part * mean[at] for part, mean in zip(parts, means)) for at in (0, 1))


def is_inside(pays, shape, odds, dice):
    """Whether a tuple is DICE whose mean pay by the odds lies in the shape."""
    parts = own(dice)
    right = len(dice) == len(pays) and min(parts) >= 0 and sum(parts) == 1
    return right and all(pair(part) == told for part, told in zip(parts, dice)) and let_by(
        shape, *dice_mean(pays, odds, dice))


def is_between(pays, shape, odds, wall):
    """Whether a wall lets the whole shape and the mean of no act."""
    a, b, c = wall
    beyond = all(a * x + b * y > c for x, y in acts_means(pays, odds))
    return (a, b) != (0, 0) and own_lets_all(wall, shape) and beyond


def one_answer(*pays):
    """PAYS with one answer and so many acts: their means are the pays themselves."""
    return tuple((pay,) for pay in pays)


class DiceAgainstTest(RefusalCase):
    def test_either_is_what_it_says(self):
        words = {"dice": 0, "wall": 0}
        for pays, shape, odds in CASES:
            word, told = dice_against(pays, shape, odds)
            words[word] += 1
            judge = is_inside if word == "dice" else is_between
            self.assertTrue(judge(pays, shape, odds, told))
            self.assertIs(is_against(pays, shape, odds, (word, told)), True)
        self.assertGreater(min(words.values()), 900)

    def test_the_example(self):
        for first in range(11):
            odds = (pair(Fraction(first, 10)), pair(Fraction(10 - first, 10)))
            self.assertIs(is_against(EXAMPLE_PAYS, CORNER, odds, ("dice", EVEN)), True)
            self.assertEqual(dice_against(EXAMPLE_PAYS, CORNER, odds)[0], "dice")

    def test_led_exactly_if_for_all_odds_there_are_dice(self):
        led = 0
        for at, pays in enumerate(ALL_PAYS):
            for shape in SHAPES[at % 9::9]:
                word, paper = lead(pays, shape)
                if word == "led":
                    led += 1
                    for odds in shares_for(len(pays[0])):
                        self.assertEqual(dice_against(pays, shape, odds)[0], "dice")
                else:
                    found, wall = dice_against(pays, shape, paper[1])
                    self.assertEqual(found, "wall")
                    self.assertIs(is_lead(pays, shape, ("out", (wall, paper[1]))), True)
                    self.assertGreater(paper_margin(pays, (wall, paper[1]))[0], 0)
        self.assertGreater(led, 100)

    def test_a_wall_is_a_paper_that_keeps_out(self):
        for pays, shape, odds in CASES[::3]:
            word, told = dice_against(pays, shape, odds)
            if word == "wall":
                self.assertIs(is_lead(pays, shape, ("out", (told, odds))), True)
                self.assertIs(is_led(pays, shape), False)

    def test_means_just_so_in_the_shape(self):
        # Half X and half Y: at the corner itself, and nowhere else.
        pays = (((0, 1), (1, 0)),)
        self.assertEqual(dice_against(pays, CORNER, EVEN), ("dice", ALONE))
        for odds in (((499, 1000), (501, 1000)), ((501, 1000), (499, 1000))):
            self.assertEqual(dice_against(pays, CORNER, odds)[0], "wall")
        # Between two means the shape has just one point.
        shape = ((1, 1, 1), (-1, -1, -1), (1, -1, 0), (-1, 1, 0))
        self.assertEqual(dice_against(one_answer((0, 1), (1, 0)), shape, ALONE), ("dice", EVEN))
        self.assertEqual(dice_against(one_answer((1, 0), (3, -2)), shape, ALONE)[0], "wall")

    def test_a_corner_within_three_means(self):
        acts = one_answer((0, 0), (6, 0), (0, 6))
        for x, y, inside in ((1, 1, True), (2, 2, True), (3, 3, True), (0, 0, True), (4, 3, False), (-1, 1, False),
                             (3, 0, True), (1, -1, False), (6, 1, False)):
            shape = ((1, 0, x), (-1, 0, -x), (0, 1, y), (0, -1, -y))
            word, told = dice_against(acts, shape, ALONE)
            self.assertEqual(word, "dice" if inside else "wall")
            if inside:
                self.assertEqual(told, tuple(pair(Fraction(part, 6)) for part in (6 - x - y, x, y)))

    def test_a_shape_within_four_means_and_around_them(self):
        acts = one_answer((-9, -9), (9, -9), (9, 9), (-9, 9))
        for shape in (SQUARE, TRIANGLE, SINGLE_POINT, SEGMENT, POINT_OF_THREE, OCTAGON, CORNER, STRIP, WHOLE_LINE):
            word, told = dice_against(acts, shape, ALONE)
            self.assertEqual(word, "dice")
            self.assertTrue(is_inside(acts, shape, ALONE, told))
        near = one_answer((0, 0), (1, 0), (1, 1), (0, 1))
        self.assertEqual(dice_against(near, OCTAGON, ALONE)[0], "dice")

    def test_means_in_one_place_or_in_a_row(self):
        for acts in (one_answer((7, 7), (7, 7), (7, 7)), one_answer((7, 7), (9, 9), (8, 8)),
                     one_answer((7, 7), (7, 7), (9, 9), (9, 9)), one_answer((7, 7))):
            for shape in (CORNER, HALF_PLANE, SQUARE, SINGLE_POINT, RAY, HALF_STRIP):
                word, told = dice_against(acts, shape, ALONE)
                self.assertEqual(word, "wall")
                self.assertTrue(is_between(acts, shape, ALONE, told))
            shape = ((1, -1, 0), (-1, 1, 0), (1, 1, 16), (-1, -1, -16))
            self.assertEqual(dice_against(acts, shape, ALONE)[0], "wall" if max(acts) == ((7, 7),) else "dice")

    def test_two_answers_in_one_place(self):
        pays = (((2, 2), (-2, -2)), ((-2, 2), (2, -2)), ((0, 0), (0, 0)))
        self.assertEqual(dice_against(pays, SINGLE_POINT, EVEN)[0], "wall")
        self.assertEqual(dice_against(pays, POINT_OF_THREE, EVEN)[0], "dice")

    def test_shapes_without_corners(self):
        acts = one_answer((3, 1), (4, 9))
        for shape, word in (
            (((1, 0, 3),), "dice"), (((1, 0, 2),), "wall"), (((1, 0, 2), (-1, 0, 5)), "wall"),
            (((-1, 0, -4),), "dice"), (((-1, 0, -5),), "wall"), (((2, 0, 7), (-2, 0, -7)), "dice"),
            (((0, 1, 5), (0, -1, -5)), "dice"), (((0, 1, 0), (0, -1, 0)), "wall"), (((8, -1, 23), (-8, 1, -23)), "dice"),
            (((8, -1, 22), (-8, 1, -22)), "wall"), (((8, -1, 24), (-8, 1, -24)), "wall"),
        ):
            found, told = dice_against(acts, shape, ALONE)
            self.assertEqual(found, word)
            self.assertTrue((is_inside if word == "dice" else is_between)(acts, shape, ALONE, told))

    def test_a_corner_nearest_to_a_segment(self):
        acts = one_answer((4, 0), (0, 4))
        word, told = dice_against(acts, ((1, 0, 1), (0, 1, 1)), ALONE)
        self.assertEqual(word, "wall")
        self.assertTrue(is_between(acts, ((1, 0, 1), (0, 1, 1)), ALONE, told))
        # No line through an edge of the shape is a wall here.
        for wall in ((1, 0, 1), (0, 1, 1)):
            self.assertFalse(is_between(acts, ((1, 0, 1), (0, 1, 1)), ALONE, wall))

    def test_great_numbers(self):
        great = 10 ** 40
        odds = ((1, great), (great - 1, great))
        pays = (((1, 0), (0, 0)),)
        word, told = dice_against(pays, LEFT, odds)
        self.assertEqual(word, "wall")
        self.assertTrue(is_between(pays, LEFT, odds, told))
        word, told = dice_against((((1, 0), (0, 0)), ((-1, 0), (0, 0))), LEFT, odds)
        self.assertEqual(word, "dice")


class IsAgainstTest(RefusalCase):
    def taken(self, value, *case):
        self.assertIs(is_against(*case, value), True)

    def left(self, value, *case):
        self.assertIs(is_against(*case, value), False)

    def test_any_dice_whose_mean_lies_in_the_shape(self):
        found = {True: 0, False: 0}
        for pays, shape, odds in CASES[::2]:
            for dice in shares_for(len(pays)):
                right = is_inside(pays, shape, odds, dice)
                found[right] += 1
                self.assertIs(is_against(pays, shape, odds, ("dice", dice)), right)
        self.assertGreater(min(found.values()), 500)

    def test_any_wall_between(self):
        walls = ((1, 0, 0), (0, 1, 0), (1, 1, 1), (-1, 2, 5), (3, -1, 4), (-1, -1, 0), (2, 0, 1), (10 ** 40, 1, 10 ** 40))
        found = {True: 0, False: 0}
        for pays, shape, odds in CASES[::4]:
            for wall in walls:
                right = is_between(pays, shape, odds, wall)
                found[right] += 1
                self.assertIs(is_against(pays, shape, odds, ("wall", wall)), right)
        self.assertGreater(min(found.values()), 50)

    def test_just_so(self):
        case = (EXAMPLE_PAYS, LEFT, EVEN)
        for wall, right in (((1, 0, 0), True), ((3, 0, 1), True), ((1000, 0, 499), True), ((2, 0, 1), False),
                            ((1, 0, -1), False), ((1000, 1, 0), False), ((-1, 0, 0), False)):
            self.assertIs(is_against(*case, ("wall", wall)), right)
        case = (EXAMPLE_PAYS, ((3, 0, 1),), ((1, 3), (2, 3)))
        for dice, right in ((LAST, True), (FIRST, False), (EVEN, False), (((1, 10 ** 9), (10 ** 9 - 1, 10 ** 9)), False)):
            self.assertIs(is_against(*case, ("dice", dice)), right)

    def test_just_one_of_both(self):
        for pays, shape, odds in CASES[::5]:
            word, told = dice_against(pays, shape, odds)
            self.left(({"dice": "wall", "wall": "dice"}[word], told), pays, shape, odds)
            if word == "dice":
                for wall in shape:
                    self.left(("wall", wall), pays, shape, odds)
            else:
                for dice in shares_for(len(pays)):
                    self.left(("dice", dice), pays, shape, odds)

    def test_values_that_are_none(self):
        inside, outside = (EXAMPLE_PAYS, CORNER, EVEN), (EXAMPLE_PAYS, LEFT, EVEN)
        dice, wall = ("dice", EVEN), ("wall", (1, 0, 0))
        self.taken(dice, *inside)
        self.taken(wall, *outside)
        for right, case in ((dice, inside), (wall, outside)):
            for value in OTHER_KINDS + (1, right[:1], right + (None,), list(right), right[::-1], right[1], (right,),
                                        (right[0].upper(), right[1]), ("", right[1]), (b"dice", right[1]),
                                        (Strange(), right[1]), (right[0], Strange())):
                self.left(value, *case)
            for value in OTHER_KINDS:
                self.left((value, right[1]), *case)
                self.left((right[0], value), *case)
        for value in NO_HALVES:
            self.left(("dice", value), *inside)
        for value in NO_WALLS:
            self.left(("wall", value), *outside)
            self.left(("wall", value), *inside)

    def test_dice_of_other_pays(self):
        self.left(("dice", ALONE), EXAMPLE_PAYS, CORNER, EVEN)
        self.left(("dice", EVEN), EXAMPLE_PAYS[:1], CORNER, EVEN)
        self.taken(("dice", EVEN), ONE_ANSWER_PAYS, CORNER, ALONE)


class WrongParametersTest(RefusalCase):
    CALLS = ((dice_against, ()), (is_against, (("dice", EVEN),)))

    def test_wrong_pays(self):
        for call, more in self.CALLS:
            for place, value in NO_PAYS:
                self.refused_place(place, BadPays, call, value, CORNER, EVEN, *more)
            for place, value in NO_PAYS[::40]:
                self.refused_place(place, BadPays, call, value, None, None, *more)

    def test_wrong_shapes(self):
        for call, more in self.CALLS:
            for place, value in NO_SHAPES:
                self.refused_place(place, BadShape, call, EXAMPLE_PAYS, value, EVEN, *more)
            for place, value in NO_SHAPES[::40]:
                self.refused_place(place, BadShape, call, EXAMPLE_PAYS, value, None, *more)

    def test_wrong_odds(self):
        for call, more in self.CALLS:
            self.each_refused(BadOdds, NO_HALVES, call, [EXAMPLE_PAYS, CORNER, None, *more], 2)
            self.each_refused(BadOdds, NO_HALVES, call, [EXAMPLE_PAYS, LEFT, None, *more], 2)
        # As many as there are answers, not acts.
        self.refused_value(BadOdds, EVEN, dice_against, ONE_ANSWER_PAYS, CORNER, EVEN)
        self.refused_value(BadOdds, EVEN, is_against, ONE_ANSWER_PAYS, CORNER, EVEN, None)


if __name__ == "__main__":
    unittest.main()
