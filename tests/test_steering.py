"""Promises 3, 28, 29 and 30: DICE for a mean, made small, and means that are steered."""

import unittest
from fractions import Fraction
from itertools import product

from tests.common import (
    CORNER, EXAMPLE_PAYS, HALF_PLANE, NAMED_PAYS, NO_HALVES, NO_PAYS, NO_POINTS, NO_SHAPES, ONE_ACT_PAYS,
    ONE_ANSWER_PAYS, OTHER_KINDS, SHAPES, SINGLE_POINT, TALL_PAYS, UNEVEN_PAYS, RefusalCase, Strange, made_pays, own,
    own_kernels, own_mean, pair, shares_for,
)
from withinshapes.ends import nearest, squared_from
from withinshapes.errors import BadDice, BadParameter, BadPays, BadPoint, BadShape, NoDice
from withinshapes.leading import is_led
from withinshapes.points import greatest_gap
from withinshapes.shapes import lets
from withinshapes.squares import kernel_dice
from withinshapes.steering import (
    exact_dice, guarantee, is_pulled, is_steering, rounded, steered, steered_late,
)

EVEN = ((1, 2), (1, 2))
FIRST, LAST = ((1, 1), (0, 1)), ((0, 1), (1, 1))
AXES = ((1, 0, 0), (0, 1, 0))
OUTSIDE = ((0, 1), (1, 1))
ALL_PAYS = NAMED_PAYS + tuple(made_pays(32, 41)) + tuple(made_pays(16, 42, 9))
CASES = [(pays, shape) for at, pays in enumerate(ALL_PAYS) for shape in SHAPES[at % 9::9]]
LED = [(pays, shape) for pays, shape in CASES if is_led(pays, shape)]
MEANS = (((0, 1), (0, 1)), ((7, 3), (-5, 2)), ((-4, 1), (9, 4)), ((1, 10 ** 20), (100, 7)), ((50, 1), (50, 1)))

# What are no rows of numbers of two answers.
NO_ANSWERS = tuple(value for value in OTHER_KINDS if type(value) is not tuple or value != () and value != (1,)) + (
    0, 1, (2,), (-1,), (0, 2), (True,), (0, False), (0.0,), ("0",), (None,), ((0,),), [0], (0, 10 ** 40),
    (0,) * 201, (None,) * 201, (Strange(),), (0, Strange()), "01", range(2), {0: 0},
)

NO_ROUNDS = tuple(OTHER_KINDS) + (0, -1, 10 ** 6 + 1, 10 ** 40, (1, 1))
NO_LATE = tuple(OTHER_KINDS) + (-1, 11, 10 ** 40, (1, 1))


def own_pay(pays, dice, answer):
    """The pay of a round in Python's own fractions."""
    return own_mean([act[answer] for act in pays], dice)


def own_pulls(pays, shape, mean):
    """The pulls of all pays, in Python's own fractions."""
    z, p = own(mean), own(nearest(shape, mean))
    return [[sum((z[at] - p[at]) * (pay[at] - p[at]) for at in (0, 1)) for pay in act] for act in pays]


def pull_sums(pulls, dice):
    """For each answer the pull of its pay."""
    parts = own(dice)
    return [sum(part * act[answer] for part, act in zip(parts, pulls)) for answer in range(len(pulls[0]))]


def own_dice(pays, shape, mean):
    """The told DICE for a mean, None if there are none."""
    if lets(shape, mean):
        return ((1, 1),) + ((0, 1),) * (len(pays) - 1)
    pulls = own_pulls(pays, shape, mean)
    game = tuple(tuple(pair(number) for number in act) for act in pulls)
    for kernel in own_kernels(len(pays), len(pays[0])):
        dice = kernel_dice(game, kernel)
        if dice is not None and max(pull_sums(pulls, dice)) <= 0:
            return dice
    return None


def own_rounded(dice, rounds):
    """The told DICE with small numbers."""
    power = 1
    while power < 8 * rounds:
        power *= 2
    parts = own(dice)
    greatest = parts.index(max(parts))
    small = [Fraction(int(part * power), power) for part in parts]
    small[greatest] = 1 - sum(part for at, part in enumerate(small) if at != greatest)
    return tuple(pair(part) for part in small)


def own_steered(pays, shape, answers, late):
    """DICES and MEANS by the told rule, round by round."""
    dices, means, total = [], [], [Fraction(0), Fraction(0)]
    for behind, answer in enumerate(answers):
        known = means[:max(behind - late, 0)]
        dice = ((1, 1),) + ((0, 1),) * (len(pays) - 1)
        if known and not lets(shape, known[-1]):
            dice = own_rounded(own_dice(pays, shape, known[-1]), behind)
        pay = own_pay(pays, dice, answer)
        total = [total[at] + pay[at] for at in (0, 1)]
        dices.append(dice)
        means.append(tuple(pair(number / (behind + 1)) for number in total))
    return tuple(dices), tuple(means)


def rows_for(pays, many):
    """Some rows of answers, long and short ones."""
    answers = len(pays[0])
    return [tuple((at * step + at // 3) % answers for at in range(many)) for step in (0, 1, 3)]


class ExactDiceTest(RefusalCase):
    def test_the_example(self):
        self.assertEqual(exact_dice(EXAMPLE_PAYS, CORNER, OUTSIDE), EVEN)
        self.assertEqual(own_pulls(EXAMPLE_PAYS, CORNER, OUTSIDE),
                         [[Fraction(1, 4), Fraction(-1, 4)], [Fraction(-1, 4), Fraction(1, 4)]])

    def test_the_first_kernel_that_meets_the_pulls(self):
        none = 0
        for pays, shape in CASES:
            for mean in MEANS:
                told = own_dice(pays, shape, mean)
                if told is None:
                    none += 1
                    error = self.refused(NoDice, exact_dice, pays, shape, mean)
                    odds = own(error.odds)
                    self.assertIs(type(error.odds), tuple)
                    self.assertTrue(len(odds) == len(pays[0]) and min(odds) >= 0 and sum(odds) == 1)
                    for act in own_pulls(pays, shape, mean):
                        self.assertGreater(sum(part * number for part, number in zip(odds, act)), 0)
                else:
                    self.assertEqual(exact_dice(pays, shape, mean), told)
        self.assertGreater(none, 50)

    def test_each_answer_has_no_pull_above_nought(self):
        for pays, shape in LED:
            for mean in MEANS:
                dice = exact_dice(pays, shape, mean)
                self.assertLessEqual(max(pull_sums(own_pulls(pays, shape, mean), dice)), 0)
                self.assertIs(is_pulled(pays, shape, mean, dice), True)

    def test_means_in_the_shape_and_on_its_border(self):
        for mean in (((1, 2), (1, 2)), ((0, 1), (0, 1)), ((1, 2), (-9, 1)), ((-10 ** 40, 3), (1, 2))):
            self.assertEqual(exact_dice(EXAMPLE_PAYS, CORNER, mean), FIRST)
        # A single act that does otherwise.
        self.assertEqual(exact_dice(TALL_PAYS, ((1, 0, 0),), ((1, 1), (0, 1))), FIRST + ((0, 1),) * 2)
        self.assertEqual(exact_dice(TALL_PAYS, ((-1, 0, -11),), ((10, 1), (0, 1))), LAST + ((0, 1),) * 2)
        self.assertEqual(exact_dice(ONE_ANSWER_PAYS, ((0, 1, 0),), ((0, 1), (1, 1))), LAST)

    def test_no_dice_for_shapes_that_are_kept_out(self):
        error = self.refused(NoDice, exact_dice, ONE_ACT_PAYS, AXES, ((1, 1), (0, 1)))
        self.assertEqual(error.odds, ((1, 1), (0, 1)))
        error = self.refused(NoDice, exact_dice, ONE_ANSWER_PAYS, AXES, ((1, 2), (1, 2)))
        self.assertEqual(error.odds, ((1, 1),))

    def test_wrong_parameters(self):
        case = [EXAMPLE_PAYS, CORNER, OUTSIDE]
        self.each_refused(BadPoint, NO_POINTS, exact_dice, case, 2)
        self.each_refused(BadPoint, NO_POINTS, is_pulled, case + [FIRST], 2)
        self.refused_value(BadPoint, None, is_pulled, EXAMPLE_PAYS, CORNER, None, None)


class IsPulledTest(unittest.TestCase):
    def test_beside_the_pulls(self):
        found = {True: 0, False: 0}
        for pays, shape in CASES[::2]:
            for mean in MEANS:
                pulls = own_pulls(pays, shape, mean)
                for dice in shares_for(len(pays)):
                    right = max(pull_sums(pulls, dice)) <= 0
                    found[right] += 1
                    self.assertIs(is_pulled(pays, shape, mean, dice), right)
        self.assertGreater(min(found.values()), 200)

    def test_any_dice_for_a_mean_in_the_shape(self):
        for dice in shares_for(2):
            for mean in (((1, 2), (1, 2)), ((0, 1), (-5, 3))):
                self.assertIs(is_pulled(EXAMPLE_PAYS, CORNER, mean, dice), True)
                self.assertIs(is_pulled((((100, 100),), ((99, 1),)), CORNER, mean, dice), True)

    def test_just_so(self):
        for dice, right in ((EVEN, True), (((499, 1000), (501, 1000)), False), (FIRST, False), (LAST, False)):
            self.assertIs(is_pulled(EXAMPLE_PAYS, CORNER, OUTSIDE, dice), right)

    def test_any_value_is_judged(self):
        for value in NO_HALVES:
            for mean in (OUTSIDE, ((0, 1), (0, 1))):
                self.assertIs(is_pulled(EXAMPLE_PAYS, CORNER, mean, value), False)


class RoundedTest(RefusalCase):
    DICES = [dice for many in (1, 2, 3, 4) for dice in shares_for(many)] + [
        ((1, 3), (2, 3)), ((2, 3), (1, 3)), ((1, 3), (1, 3), (1, 3)), ((1, 5), (2, 5), (2, 5)), ((2, 5), (1, 5), (2, 5)),
        ((1, 7), (2, 7), (3, 7), (1, 7)), ((0, 1), (1, 3), (0, 1), (2, 3)), ((1, 1000001), (1000000, 1000001)),
        ((10 ** 40, 3 * 10 ** 40 + 1), (2 * 10 ** 40 + 1, 3 * 10 ** 40 + 1)), ((3, 8), (5, 8)), ((1, 16), (15, 16)),
    ]

    def test_the_example(self):
        self.assertEqual(rounded(((1, 3), (2, 3)), 1), ((1, 4), (3, 4)))

    def test_thing_by_thing(self):
        for dice in self.DICES:
            for rounds in (1, 2, 3, 4, 5, 8, 9, 100, 127, 128, 129, 199, 2 ** 17, 2 ** 17 + 1, 10 ** 6 - 1, 10 ** 6):
                found = rounded(dice, rounds)
                self.assertEqual(found, own_rounded(dice, rounds))
                self.assertEqual(sum(own(found)), 1)
                self.assertGreaterEqual(min(own(found)), 0)

    def test_numbers_of_rounds_at_powers_of_two(self):
        third = ((1, 3), (2, 3))
        # The least power: 8 for 1, 16 for 2, 32 for 3 and 4, 64 for 5.
        for rounds, part in ((1, (1, 4)), (2, (5, 16)), (3, (5, 16)), (4, (5, 16)), (5, (21, 64)), (8, (21, 64)), (9, (21, 64)),
                             (16, (21, 64)), (17, (85, 256)), (10 ** 6, (2796202, 2 ** 23))):
            self.assertEqual(rounded(third, rounds)[0], pair(Fraction(*part)))

    def test_the_first_of_the_greatest_gets_the_rest(self):
        self.assertEqual(rounded(((1, 3),) * 3, 1), ((1, 2), (1, 4), (1, 4)))
        self.assertEqual(rounded(((1, 5), (2, 5), (2, 5)), 1), ((1, 8), (1, 2), (3, 8)))
        self.assertEqual(rounded(((2, 5), (1, 5), (2, 5)), 1), ((1, 2), (1, 8), (3, 8)))
        self.assertEqual(rounded(((1, 4), (1, 2), (1, 4)), 1), ((1, 4), (1, 2), (1, 4)))

    def test_noughts_and_parts_below_the_least(self):
        self.assertEqual(rounded(FIRST, 1), FIRST)
        self.assertEqual(rounded(LAST, 10 ** 6), LAST)
        self.assertEqual(rounded(((1, 1),), 7), ((1, 1),))
        self.assertEqual(rounded(((1, 10), (9, 10)), 1), LAST)
        self.assertEqual(rounded(((0, 1), (1, 9), (8, 9), (0, 1)), 1), ((0, 1), (0, 1), (1, 1), (0, 1)))

    def test_wrong_dice(self):
        wrong = NO_HALVES + (((1, 5),) * 5, ((1, 4),) * 3 + ((1, 5),), ((0, 1),), ((2, 1),), ((2, 1), (-1, 1)), (FIRST,))
        # Other tuples of parts than two may be right here.
        wrong = [value for value in wrong if type(value) is not tuple or len(value) != 1 or value[0] != (1, 1)]
        wrong = [value for value in wrong if type(value) is not tuple or len(value) != 3 or value[2] != (0, 1)]
        self.each_refused(BadDice, wrong, rounded, [None, 1], 0)
        self.each_refused(BadDice, wrong, rounded, [None, 0], 0)

    def test_wrong_rounds(self):
        self.each_refused(BadParameter, NO_ROUNDS, rounded, [EVEN, None], 1)
        for rounds in (1, 10 ** 6):
            self.assertEqual(rounded(EVEN, rounds), EVEN)


class SteeredTest(RefusalCase):
    def test_the_example(self):
        self.assertEqual(steered(EXAMPLE_PAYS, CORNER, (0, 0)),
                         ((FIRST, EVEN), (((0, 1), (1, 1)), ((1, 4), (3, 4)))))

    def test_round_by_round(self):
        for pays, shape in LED:
            for answers in rows_for(pays, 12):
                self.assertEqual(steered(pays, shape, answers), own_steered(pays, shape, answers, 0))

    def test_late(self):
        for pays, shape in LED[::3]:
            for late in (0, 1, 2, 5, 10):
                for answers in rows_for(pays, 14)[1:]:
                    told = own_steered(pays, shape, answers, late)
                    self.assertEqual(steered_late(pays, shape, answers, late), told)
                    if late == 0:
                        self.assertEqual(steered(pays, shape, answers), told)

    def test_the_first_rounds_are_drawn_by_the_first_act(self):
        pays = (((100, 100), (50, 60)), ((-100, -100), (-50, -90)))
        for late in range(11):
            dices, _ = steered_late(pays, AXES, (0, 1) * 6 + (0,), late)
            self.assertEqual(dices[:late + 1], (FIRST,) * (late + 1))
            self.assertEqual(dices[late + 1], LAST)

    def test_rounded_by_all_rounds_ahead(self):
        # By exact dice one act to two: 1/3, made small by the rounds behind, known or not.
        pays = (((0, 2), (0, -1)), ((0, -1), (0, 2)), ((0, -1), (0, -1)))
        case = (pays[:2], ((0, 1, 1),), (0,) * 12)
        for late in (0, 1, 4):
            dices, means = steered_late(*case, late)
            for behind in range(late + 1, 12):
                exact = exact_dice(*case[:2], means[behind - late - 1])
                self.assertEqual(dices[behind], rounded(exact, behind))

    def test_no_answers(self):
        self.assertEqual(steered(EXAMPLE_PAYS, CORNER, ()), ((), ()))
        self.assertEqual(steered_late(EXAMPLE_PAYS, CORNER, (), 10), ((), ()))

    def test_every_row_of_a_few_answers_is_within_the_guarantee(self):
        for pays, shape in LED[::4] + [(EXAMPLE_PAYS, CORNER)]:
            answers = len(pays[0])
            for row in list(product(range(answers), repeat=4))[::1 if answers < 3 else 7]:
                for late in (0, 2):
                    _, means = steered_late(pays, shape, row, late)
                    for number, mean in enumerate(means):
                        most = Fraction((5 + 4 * late) * greatest_gap(pays), number + 1)
                        self.assertLessEqual(Fraction(*squared_from(shape, mean)), most)

    def test_against_an_answer_that_looks_at_the_dice(self):
        for pays, shape in LED[::9]:
            answers = ()
            for rounds in range(1, 25):
                # The answer whose mean would be farthest from the shape.
                ends = []
                for answer in range(len(pays[0])):
                    _, means = steered(pays, shape, answers + (answer,))
                    ends.append(Fraction(*squared_from(shape, means[-1])))
                answers += (ends.index(max(ends)),)
                self.assertLessEqual(max(ends), Fraction(5 * greatest_gap(pays), rounds))

    def test_two_hundred_answers_and_no_more(self):
        answers = (0, 0, 1) * 66 + (1, 0)
        dices, means = steered(EXAMPLE_PAYS, CORNER, answers)
        self.assertEqual((len(dices), len(means)), (200, 200))
        self.assertEqual((dices, means), own_steered(EXAMPLE_PAYS, CORNER, answers, 0))
        self.assertIs(is_steering(EXAMPLE_PAYS, CORNER, answers, dices), True)
        wrong = (0,) * 201
        self.refused_value(BadParameter, wrong, steered, EXAMPLE_PAYS, CORNER, wrong)
        self.refused_value(BadParameter, wrong, steered_late, EXAMPLE_PAYS, CORNER, wrong, 10)
        self.refused_value(BadParameter, wrong, is_steering, EXAMPLE_PAYS, CORNER, wrong, dices)

    def test_no_dice_as_soon_as_there_are_none(self):
        # The mean of the first round lies in the shape by the answer 0, and outside by 1.
        pays = (((-1, 0), (3, 0)),)
        case = (pays, ((1, 0, 0),))
        self.assertEqual(steered(*case, (0, 1)), ((((1, 1),),) * 2, (((-1, 1), (0, 1)), ((1, 1), (0, 1)))))
        for answers in ((0, 1, 0), (1, 0), (1, 1, 1, 0), (0, 0, 0, 1, 1, 1)):
            error = self.refused(NoDice, steered, *case, answers)
            self.assertEqual(error.odds, ((0, 1), (1, 1)))
        # Late by as many rounds nobody looks.
        self.assertEqual(len(steered_late(*case, (1, 0, 1), 2)[0]), 3)
        error = self.refused(NoDice, steered_late, *case, (1, 0, 1, 0), 2)
        self.assertEqual(error.odds, ((0, 1), (1, 1)))

    def test_wrong_answers(self):
        for call, more in ((steered, ()), (steered_late, (0,)), (is_steering, ((),))):
            self.each_refused(BadParameter, NO_ANSWERS, call, [EXAMPLE_PAYS, CORNER, None, *more], 2)
        self.refused_value(BadParameter, None, steered_late, EXAMPLE_PAYS, CORNER, None, 11)
        for pays in (ONE_ANSWER_PAYS, UNEVEN_PAYS):
            wrong = (0, len(pays[0]))
            self.refused_value(BadParameter, wrong, steered, pays, HALF_PLANE, wrong)

    def test_wrong_late(self):
        self.each_refused(BadParameter, NO_LATE, steered_late, [EXAMPLE_PAYS, CORNER, (0, 1), None], 3)
        self.each_refused(BadParameter, NO_LATE, guarantee, [EXAMPLE_PAYS, 1, None], 2)


class GuaranteeTest(RefusalCase):
    def test_the_told_fraction(self):
        for pays in ALL_PAYS:
            for rounds in (1, 2, 3, 7, 200, 10 ** 6 - 1, 10 ** 6):
                for late in (0, 1, 9, 10):
                    told = Fraction((5 + 4 * late) * greatest_gap(pays), rounds)
                    self.assertEqual(guarantee(pays, rounds, late), pair(told))

    def test_by_hand(self):
        self.assertEqual(guarantee(EXAMPLE_PAYS, 1, 0), (10, 1))
        self.assertEqual(guarantee(EXAMPLE_PAYS, 4, 0), (5, 2))
        self.assertEqual(guarantee(EXAMPLE_PAYS, 3, 10), (30, 1))
        self.assertEqual(guarantee((((3, -4),),), 5, 2), (0, 1))

    def test_wrong_rounds(self):
        self.each_refused(BadParameter, NO_ROUNDS, guarantee, [EXAMPLE_PAYS, None, 0], 1)
        self.refused_value(BadParameter, 0, guarantee, EXAMPLE_PAYS, 0, 11)
        self.refused_value(BadParameter, 11, guarantee, EXAMPLE_PAYS, 1, 11)


class IsSteeringTest(RefusalCase):
    def test_what_is_steered_is(self):
        for pays, shape in LED:
            for answers in rows_for(pays, 9):
                dices, _ = steered(pays, shape, answers)
                self.assertIs(is_steering(pays, shape, answers, dices), True)

    def test_any_rule_that_is_pulled(self):
        for pays, shape in LED[::6]:
            for answers in rows_for(pays, 8):
                dices, total = [], [Fraction(0), Fraction(0)]
                for behind, answer in enumerate(answers):
                    mean = tuple(pair(number / behind) for number in total) if behind else ((0, 1), (0, 1))
                    lot = [dice for dice in shares_for(len(pays)) if is_pulled(pays, shape, mean, dice)]
                    dice = lot[-1] if lot else exact_dice(pays, shape, mean)
                    pay = own_pay(pays, dice, answer)
                    total = [total[at] + pay[at] for at in (0, 1)]
                    dices.append(dice)
                self.assertIs(is_steering(pays, shape, answers, tuple(dices)), True)

    def test_beside_the_distances(self):
        found = {True: 0, False: 0}
        for pays, shape in CASES[::5]:
            for dice in shares_for(len(pays)):
                for answers in rows_for(pays, 9):
                    total = [Fraction(0), Fraction(0)]
                    right = True
                    for rounds, answer in enumerate(answers, 1):
                        pay = own_pay(pays, dice, answer)
                        total = [total[at] + pay[at] for at in (0, 1)]
                        mean = tuple(pair(number / rounds) for number in total)
                        far = Fraction(*squared_from(shape, mean))
                        right = right and far <= Fraction(5 * greatest_gap(pays), rounds)
                    found[right] += 1
                    self.assertIs(is_steering(pays, shape, answers, (dice,) * 9), right)
        self.assertGreater(min(found.values()), 100)

    def test_just_so(self):
        # G is 2: behind one round at most 10, behind five rounds at most 2, behind ten rounds at most 1.
        case = (EXAMPLE_PAYS, AXES)
        for many, right in ((9, True), (10, True), (11, False), (12, False)):
            self.assertIs(is_steering(*case, (0,) * many, (LAST,) * many), right)
        # Only the last round is too far, or only the first ones.
        self.assertIs(is_steering(*case, (0,) * 11, (LAST,) * 10 + (FIRST,)), True)
        far = ((((100, 0), (0, 0)),), ((1, 0, -1000),))
        self.assertIs(is_steering(*far, (0,), (((1, 1),),)), False)
        pays = (((7, 0), (-1, 0)), ((7, 0), (7, 0)))
        self.assertIs(is_steering(pays, ((1, 0, -9),), (0,), (FIRST,)), True)
        self.assertIs(is_steering(pays, ((1, 0, -11),), (0,), (FIRST,)), False)
        self.assertIs(is_steering(pays, ((1, 0, -11),), (0,) + (1,) * 30, (FIRST,) * 31), False)

    def test_no_answers(self):
        self.assertIs(is_steering(EXAMPLE_PAYS, CORNER, (), ()), True)
        self.assertIs(is_steering(EXAMPLE_PAYS, CORNER, (), (FIRST,)), False)
        self.assertIs(is_steering(EXAMPLE_PAYS, CORNER, (0,), ()), False)

    def test_any_value_is_judged(self):
        case = (EXAMPLE_PAYS, CORNER, (0, 1))
        self.assertIs(is_steering(*case, (FIRST, EVEN)), True)
        for value in OTHER_KINDS + (1, [FIRST, EVEN], (FIRST,), (FIRST, EVEN, EVEN), FIRST, (FIRST, EVEN, None)):
            self.assertIs(is_steering(*case, value), False)
        for value in NO_HALVES:
            self.assertIs(is_steering(*case, (value, EVEN)), False)
            self.assertIs(is_steering(*case, (FIRST, value)), False)


class WrongParametersTest(RefusalCase):
    """Pays, then the shape, then the rest."""

    CALLS = (
        (exact_dice, (OUTSIDE,)), (is_pulled, (OUTSIDE, FIRST)), (steered, ((0, 1),)), (steered_late, ((0, 1), 1)),
        (is_steering, ((0,), (FIRST,))),
    )

    def test_wrong_pays(self):
        for place, value in NO_PAYS:
            for call, more in self.CALLS:
                self.refused_place(place, BadPays, call, value, CORNER, *more)
            self.refused_place(place, BadPays, guarantee, value, 1, 0)
        for place, value in NO_PAYS[::40]:
            for call, more in self.CALLS:
                self.refused_place(place, BadPays, call, value, None, *[None for _ in more])
            self.refused_place(place, BadPays, guarantee, value, None, None)

    def test_wrong_shapes(self):
        for place, value in NO_SHAPES:
            for call, more in self.CALLS:
                self.refused_place(place, BadShape, call, EXAMPLE_PAYS, value, *more)
        for place, value in NO_SHAPES[::40]:
            for call, more in self.CALLS:
                self.refused_place(place, BadShape, call, EXAMPLE_PAYS, value, *[None for _ in more])

    def test_single_points(self):
        point = ((1, 1), (1, 3))
        self.assertEqual(exact_dice(EXAMPLE_PAYS, SINGLE_POINT, point), FIRST)
        dice = exact_dice((((3, 5), (-3, 5)), ((3, -5), (-3, -5))), SINGLE_POINT, ((1, 1), (4, 3)))
        self.assertEqual(dice, LAST)


if __name__ == "__main__":
    unittest.main()
