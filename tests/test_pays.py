"""Promises 3 and 10: PAYS, DICE, ODDS, the pay of a round."""

import unittest
from fractions import Fraction
from itertools import product

from tests.common import (
    EXAMPLE_PAYS, FULL_PAYS, NAMED_PAYS, NO_HALVES, NO_PAIRS, NO_ROWS, OTHER_KINDS, SINGLE_PAY, TALL_PAYS, UNEVEN_PAYS,
    LONG, RefusalCase, pair, shares_for,
)
from withinshapes.errors import BadDice, BadOdds, BadParameter, BadPays
from withinshapes.fractions import less, minus, plus, times
from withinshapes.points import (
    greatest_gap, mean_of, need_dice, need_odds, need_pays, pay_by, pay_of, point_plus, point_times, squared,
)

HALVES = ((1, 2), (1, 2))


def own_pay(pays, dice, answer):
    """The pay of a round in Python's own fractions."""
    parts = [Fraction(*part) for part in dice]
    return [sum(part * act[answer][thing] for part, act in zip(parts, pays)) for thing in (0, 1)]


class NeedPaysTest(RefusalCase):
    def test_pays_are_returned(self):
        for pays in NAMED_PAYS:
            self.assertIs(need_pays(pays), pays)

    def test_one_and_four_of_each(self):
        for acts, answers in product(range(1, 5), repeat=2):
            pays = (((0, 0),) * answers,) * acts
            self.assertIs(need_pays(pays), pays)

    def test_the_bounds_of_numbers(self):
        for number in (-100, -99, 0, 99, 100):
            for pays in ((((number, 0),),), (((0, number),),)):
                self.assertIs(need_pays(pays), pays)
        for number in (-101, 101, -LONG, LONG):
            for pays in ((((number, 0),),), (((0, number),),)):
                self.refused_place((0, 0), BadPays, need_pays, pays)

    def test_wrong_as_a_whole(self):
        for value in NO_ROWS + [1, list(EXAMPLE_PAYS), (((0, 0),),) * 5, (None,) * 5]:
            self.refused_place((), BadPays, need_pays, value)

    def test_wrong_in_an_act(self):
        right = ((0, 0), (1, 1))
        for value in NO_ROWS + [1, list(right), ((0, 0),) * 5, (None,) * 5]:
            self.refused_place((0,), BadPays, need_pays, (value,))
            self.refused_place((1,), BadPays, need_pays, (right, value, right))
            self.refused_place((3,), BadPays, need_pays, (right, right, right, value))

    def test_acts_of_another_number_of_things(self):
        two, three = ((0, 0),) * 2, ((0, 0),) * 3
        self.refused_place((1,), BadPays, need_pays, (two, three))
        self.refused_place((1,), BadPays, need_pays, (three, two, two))
        self.refused_place((2,), BadPays, need_pays, (two, two, three))
        self.refused_place((2,), BadPays, need_pays, (two, two, three, None))

    def test_wrong_in_a_pair(self):
        right = (0, 0)
        for value in NO_PAIRS:
            self.refused_place((0, 0), BadPays, need_pays, ((value,),))
            self.refused_place((0, 1), BadPays, need_pays, ((right, value), (right, right)))
            self.refused_place((1, 0), BadPays, need_pays, ((right, right), (value, right)))

    def test_the_first_wrong_place_is_told(self):
        right, wrong = (0, 0), (101, 0)
        self.refused_place((0, 1), BadPays, need_pays, ((right, wrong, wrong), (wrong, right, right)))
        self.refused_place((0, 1), BadPays, need_pays, ((right, wrong), None))
        self.refused_place((0, 1), BadPays, need_pays, ((right, wrong), (right,)))
        self.refused_place((1,), BadPays, need_pays, ((right, right), None, (wrong, right)))
        self.refused_place((1,), BadPays, need_pays, ((right, right), (wrong, right, right)))
        self.refused_place((1, 0), BadPays, need_pays, ((right, right), (wrong, right), None))

    def test_places_are_found_in_order_by_a_plain_search(self):
        right, wrong = (0, 0), (0, -101)
        for marks in product((False, True), repeat=6):
            things = [wrong if mark else right for mark in marks]
            pays = (tuple(things[:2]), tuple(things[2:4]), tuple(things[4:]))
            if any(marks):
                first = marks.index(True)
                self.refused_place((first // 2, first % 2), BadPays, need_pays, pays)
            else:
                self.assertIs(need_pays(pays), pays)


class EveryPaysTest(RefusalCase):
    """Each parameter that is PAYS is checked as need_pays does it."""

    CALLS = (
        (need_dice, (HALVES,)), (need_odds, (HALVES,)), (pay_of, (HALVES, 0)), (pay_by, (HALVES, HALVES)),
        (greatest_gap, ()),
    )

    def each_place(self, place, pays):
        for call, others in self.CALLS:
            self.refused_place(place, BadPays, call, pays, *others)
            # Whatever stands behind the pays is looked at later.
            self.refused_place(place, BadPays, call, pays, *[None for _ in others])

    def test_wrong_as_a_whole(self):
        for value in NO_ROWS + [1, list(EXAMPLE_PAYS), EXAMPLE_PAYS[:1] * 5]:
            self.each_place((), value)

    def test_wrong_in_an_act(self):
        first, last = EXAMPLE_PAYS
        for value in NO_ROWS + [1, list(last), last[:1], last * 2, last[:1] * 5]:
            self.each_place((1,), (first, value))

    def test_wrong_in_a_pair(self):
        for value in NO_PAIRS:
            self.each_place((1, 0), (EXAMPLE_PAYS[0], (value, None)))


class SharesTest(RefusalCase):
    def test_dice_and_odds_are_returned(self):
        for pays in NAMED_PAYS:
            for dice in shares_for(len(pays)):
                self.assertIs(need_dice(pays, dice), dice)
            for odds in shares_for(len(pays[0])):
                self.assertIs(need_odds(pays, odds), odds)

    def test_a_part_of_nought(self):
        for shares in (((0, 1), (1, 1)), ((1, 1), (0, 1))):
            self.assertIs(need_dice(EXAMPLE_PAYS, shares), shares)
            self.assertIs(need_odds(EXAMPLE_PAYS, shares), shares)

    def test_what_is_none_is_refused(self):
        self.each_refused(BadDice, NO_HALVES, need_dice, [EXAMPLE_PAYS, None], 1)
        self.each_refused(BadOdds, NO_HALVES, need_odds, [EXAMPLE_PAYS, None], 1)

    def test_dice_are_for_acts_and_odds_for_answers(self):
        thirds = ((1, 3),) * 3
        self.assertIs(need_dice(UNEVEN_PAYS, HALVES), HALVES)
        self.assertIs(need_odds(UNEVEN_PAYS, thirds), thirds)
        self.refused_value(BadDice, thirds, need_dice, UNEVEN_PAYS, thirds)
        self.refused_value(BadOdds, HALVES, need_odds, UNEVEN_PAYS, HALVES)

    def test_pays_are_checked_first(self):
        for call in (need_dice, need_odds):
            self.refused_place((), BadPays, call, None, None)
            self.refused_place((0,), BadPays, call, (None,), HALVES)
            self.refused_place((0, 0), BadPays, call, (((101, 0),),), None)


class PayOfTest(RefusalCase):
    def test_the_example(self):
        dice = ((1, 3), (2, 3))
        self.assertEqual(pay_of(EXAMPLE_PAYS, dice, 0), ((2, 3), (1, 3)))
        self.assertEqual(pay_of(EXAMPLE_PAYS, dice, 1), ((1, 3), (2, 3)))

    def test_an_act_alone_pays_its_pair(self):
        for pays in NAMED_PAYS:
            for i, act in enumerate(pays):
                dice = tuple((int(i == k), 1) for k in range(len(pays)))
                for j, (x, y) in enumerate(act):
                    self.assertEqual(pay_of(pays, dice, j), ((x, 1), (y, 1)))

    def test_the_sum_over_acts(self):
        for pays in NAMED_PAYS:
            for dice in shares_for(len(pays)):
                for answer in range(len(pays[0])):
                    x, y = own_pay(pays, dice, answer)
                    self.assertEqual(pay_of(pays, dice, answer), (pair(x), pair(y)))

    def test_answers_that_are_no_number_of_one(self):
        self.each_refused(BadParameter, OTHER_KINDS + (-1, 2, 100, LONG, -LONG, (0, 1)), pay_of, [EXAMPLE_PAYS, HALVES, 0], 2)
        self.each_refused(BadParameter, (1, -1), pay_of, [SINGLE_PAY, ((1, 1),), 0], 2)
        self.each_refused(BadParameter, (1, 3), pay_of, [TALL_PAYS, ((1, 4),) * 4, 0], 2)
        self.each_refused(BadParameter, (3,), pay_of, [UNEVEN_PAYS, HALVES, 0], 2)

    def test_parameters_in_their_order(self):
        self.refused_place((), BadPays, pay_of, None, None, None)
        self.refused_value(BadDice, None, pay_of, EXAMPLE_PAYS, None, None)
        self.refused_value(BadParameter, True, pay_of, EXAMPLE_PAYS, HALVES, True)

    def test_wrong_pays_and_dice(self):
        self.refused_place((1, 1), BadPays, pay_of, (((0, 0), (0, 0)), ((0, 0), None)), HALVES, 0)
        self.each_refused(BadDice, NO_HALVES, pay_of, [EXAMPLE_PAYS, None, 0], 1)

    def test_within_each_line_that_lets_all_pays_of_the_answer(self):
        for pays in NAMED_PAYS:
            for dice in shares_for(len(pays)):
                for answer in range(len(pays[0])):
                    x, y = pay_of(pays, dice, answer)
                    for a, b in product(range(-2, 3), repeat=2):
                        greatest = max(a * act[answer][0] + b * act[answer][1] for act in pays)
                        along = plus(times((a, 1), x), times((b, 1), y))
                        self.assertFalse(less((greatest, 1), along))


class PayByTest(RefusalCase):
    def test_the_example(self):
        self.assertEqual(pay_by(EXAMPLE_PAYS, ((1, 3), (2, 3)), HALVES), HALVES)

    def test_unequal_odds(self):
        self.assertEqual(pay_by(EXAMPLE_PAYS, ((1, 3), (2, 3)), ((1, 4), (3, 4))), ((5, 12), (7, 12)))
        self.assertEqual(pay_by(UNEVEN_PAYS, ((1, 2), (1, 2)), ((1, 2), (1, 3), (1, 6))), ((9, 4), (35, 12)))

    def test_the_sum_over_answers(self):
        for pays in NAMED_PAYS:
            for dice in shares_for(len(pays)):
                for odds in shares_for(len(pays[0])):
                    x, y = 0, 0
                    for answer, part in enumerate(odds):
                        across, up = own_pay(pays, dice, answer)
                        x, y = x + Fraction(*part) * across, y + Fraction(*part) * up
                    self.assertEqual(pay_by(pays, dice, odds), (pair(x), pair(y)))

    def test_also_the_sum_over_acts(self):
        for pays in NAMED_PAYS:
            for dice in shares_for(len(pays)):
                for odds in shares_for(len(pays[0])):
                    total = ((0, 1), (0, 1))
                    for act, part in zip(pays, dice):
                        total = point_plus(total, point_times(pay_by((act,), ((1, 1),), odds), part))
                    self.assertEqual(pay_by(pays, dice, odds), total)

    def test_wrong_parameters(self):
        self.refused_place((2,), BadPays, pay_by, (((0, 0),), ((0, 0),), ()), HALVES, HALVES)
        self.each_refused(BadDice, NO_HALVES, pay_by, [EXAMPLE_PAYS, HALVES, HALVES], 1)
        self.each_refused(BadOdds, NO_HALVES, pay_by, [EXAMPLE_PAYS, HALVES, HALVES], 2)

    def test_parameters_in_their_order(self):
        self.refused_place((), BadPays, pay_by, None, None, None)
        self.refused_value(BadDice, None, pay_by, EXAMPLE_PAYS, None, None)
        self.refused_value(BadOdds, None, pay_by, EXAMPLE_PAYS, HALVES, None)


class GreatestGapTest(RefusalCase):
    def test_the_example(self):
        self.assertEqual(greatest_gap(EXAMPLE_PAYS), 2)

    def test_pays_that_are_all_alike(self):
        for acts, answers in product(range(1, 5), repeat=2):
            self.assertEqual(greatest_gap((((7, -7),) * answers,) * acts), 0)

    def test_of_any_two_pays(self):
        for pays in NAMED_PAYS:
            told = [Fraction(0)]
            for (x, y), (u, v) in product([pay for act in pays for pay in act], repeat=2):
                told.append(Fraction((x - u) ** 2 + (y - v) ** 2))
            self.assertEqual(greatest_gap(pays), max(told))
            self.assertIs(type(greatest_gap(pays)), int)

    def test_by_hand(self):
        self.assertEqual(greatest_gap((((0, 0), (3, 4)),)), 25)
        self.assertEqual(greatest_gap((((0, 0),), ((3, 4),))), 25)
        self.assertEqual(greatest_gap((((100, 100), (0, 0)), ((0, 0), (-100, -100)))), 80000)
        self.assertEqual(greatest_gap((((0, 0), (0, 0)), ((0, 0), (0, 0)), ((0, 0), (1, 2)))), 5)

    def test_wrong_pays(self):
        self.refused_place((), BadPays, greatest_gap, [((0, 0),)])
        self.refused_place((0,), BadPays, greatest_gap, ([(0, 0)],))
        self.refused_place((0, 0), BadPays, greatest_gap, (([0, 0],),))

    def test_pays_of_dice_and_means_are_no_farther_apart(self):
        for pays in NAMED_PAYS:
            most = (greatest_gap(pays), 1)
            rounds = list(product(shares_for(len(pays)), range(len(pays[0]))))
            paid = [pay_of(pays, dice, answer) for dice, answer in rounds]
            means = [mean_of(tuple(paid[:many])) for many in range(1, len(paid) + 1)]
            for one, other in product(paid + means, repeat=2):
                self.assertFalse(less(minus(most, squared(one, other)), (0, 1)))


if __name__ == "__main__":
    unittest.main()
