"""Promises 6 and 19: KERNELs, their weights, their DICE, the first one that meets a game."""

import unittest
from fractions import Fraction
from itertools import product

from tests.common import (
    ALIKE, DIAGONAL, GAMES, LITTLE_GAMES, NOUGHTS, NO_GAMES, NO_KERNELS, ONE_ACT, ONE_ANSWER, ONE_NUMBER, OTHER_KINDS,
    PENNIES, STONES, RefusalCase, cofactor, own, own_kernels, pair, whole_game,
)
from withinshapes.errors import BadGame, BadParameter
from withinshapes.squares import first_kernel, kernel_dice, kernels

BOTH = ((0, 1), (0, 1))
GREAT = (((10 ** 40, 3), (-(10 ** 40), 7)), ((-(10 ** 41) - 1, 10 ** 20), (1, 10 ** 40)))

NO_COUNTS = OTHER_KINDS + (0, 5, -1, 10 ** 40, (1, 1))

def own_weights(game, kernel):
    """The sum of cofactors for each act of the kernel."""
    acts, answers = kernel
    square = [[Fraction(*game[act][answer]) for answer in answers] for act in acts]
    size = len(acts)
    return [sum(cofactor(square, row, column) for column in range(size)) for row in range(size)]


def own_dice(game, kernel):
    """The weights divided by their sum, or None."""
    weights = own_weights(game, kernel)
    up, down = all(weight >= 0 for weight in weights), all(weight <= 0 for weight in weights)
    if up == down:
        # Of both signs, or all nought.
        return None
    parts = [Fraction(0)] * len(game)
    for act, weight in zip(kernel[0], weights):
        parts[act] = weight / sum(weights)
    return tuple(pair(part) for part in parts)


def is_met_by(game, dice):
    """Whether no answer's sum is above nought."""
    parts = own(dice)
    return all(sum(part * number for part, number in zip(parts, own(column))) <= 0 for column in zip(*game))


class KernelsTest(RefusalCase):
    def test_all_in_order(self):
        for acts, answers in product(range(1, 5), repeat=2):
            self.assertEqual(kernels(acts, answers), own_kernels(acts, answers))

    def test_by_hand(self):
        self.assertEqual(kernels(1, 1), (((0,), (0,)),))
        self.assertEqual(kernels(1, 3), (((0,), (0,)), ((0,), (1,)), ((0,), (2,))))
        self.assertEqual(kernels(3, 1), (((0,), (0,)), ((1,), (0,)), ((2,), (0,))))
        self.assertEqual(
            kernels(2, 2), (((0,), (0,)), ((0,), (1,)), ((1,), (0,)), ((1,), (1,)), ((0, 1), (0, 1))),
        )
        self.assertEqual(
            kernels(2, 3)[6:], (((0, 1), (0, 1)), ((0, 1), (0, 2)), ((0, 1), (1, 2))),
        )

    def test_four_by_four(self):
        found = kernels(4, 4)
        self.assertEqual(len(found), 16 + 36 + 16 + 1)
        self.assertEqual(found[0], ((0,), (0,)))
        self.assertEqual(found[16], ((0, 1), (0, 1)))
        self.assertEqual(found[51], ((2, 3), (2, 3)))
        self.assertEqual(found[52], ((0, 1, 2), (0, 1, 2)))
        self.assertEqual(found[68], ((0, 1, 2, 3), (0, 1, 2, 3)))

    def test_wrong_numbers(self):
        self.each_refused(BadParameter, NO_COUNTS, kernels, [1, 1], 0)
        self.each_refused(BadParameter, NO_COUNTS, kernels, [1, 1], 1)

    def test_the_first_wrong_one_is_refused(self):
        self.refused_value(BadParameter, 0, kernels, 0, 5)
        self.refused_value(BadParameter, 5, kernels, 5, 0)
        self.refused_value(BadParameter, None, kernels, None, True)


class KernelDiceTest(RefusalCase):
    def test_weights_divided_by_their_sum(self):
        told = {True: 0, False: 0}
        for game in GAMES + (GREAT,):
            for kernel in own_kernels(len(game), len(game[0])):
                dice = own_dice(game, kernel)
                told[dice is None] += 1
                self.assertEqual(kernel_dice(game, kernel), dice)
        self.assertGreater(min(told.values()), 400)

    def test_each_size_has_both(self):
        sizes = {(len(kernel[0]), kernel_dice(game, kernel) is None)
                 for game in GAMES for kernel in own_kernels(len(game), len(game[0]))}
        self.assertEqual(sizes, {(1, False)} | set(product((2, 3, 4), (True, False))))

    def test_one_act_and_one_answer(self):
        for number in ((0, 1), (5, 1), (-5, 3)):
            self.assertEqual(kernel_dice(((number,),), ((0,), (0,))), ((1, 1),))
        self.assertEqual(kernel_dice(DIAGONAL, ((2,), (1,))), ((0, 1), (0, 1), (1, 1), (0, 1)))

    def test_by_hand(self):
        self.assertEqual(kernel_dice(PENNIES, BOTH), ((1, 2), (1, 2)))
        # All weights are below nought here.
        self.assertEqual(kernel_dice(whole_game((-1, 1), (1, -1)), BOTH), ((1, 2), (1, 2)))
        self.assertEqual(kernel_dice(whole_game((3, 0), (0, 1)), BOTH), ((1, 4), (3, 4)))
        self.assertEqual(kernel_dice(STONES, ((0, 1, 2), (0, 1, 2))), ((1, 3),) * 3)
        self.assertEqual(kernel_dice(DIAGONAL, ((0, 1, 2, 3), (0, 1, 2, 3))), ((1, 4),) * 4)
        self.assertEqual(kernel_dice(DIAGONAL, ((1, 3), (1, 3))), ((0, 1), (1, 2), (0, 1), (1, 2)))
        # The weights are 3 - 0 and 1 - 0 by the answers 1 and 2.
        game = whole_game((9, 1, 0), (9, 0, 3))
        self.assertEqual(kernel_dice(game, ((0, 1), (1, 2))), ((3, 4), (1, 4)))
        # A weight of nought beside one above it, and beside one below it.
        self.assertEqual(kernel_dice(whole_game((1, 0), (0, 0)), BOTH), ((0, 1), (1, 1)))
        self.assertEqual(kernel_dice(whole_game((-1, 0), (0, 0)), BOTH), ((0, 1), (1, 1)))

    def test_weights_that_are_all_nought(self):
        self.assertIsNone(kernel_dice(NOUGHTS, BOTH))
        self.assertIsNone(kernel_dice(whole_game((1, 1), (2, 2)), BOTH))
        self.assertIsNone(kernel_dice(DIAGONAL[:1] * 4, ((0, 1, 2), (0, 1, 2))))

    def test_weights_of_both_signs(self):
        # The weights are 1 and -1, their sum is nought.
        self.assertIsNone(kernel_dice(whole_game((0, 1), (0, 1)), BOTH))
        # The weights are 2 and -1.
        self.assertIsNone(kernel_dice(whole_game((1, 2), (0, 2)), BOTH))
        self.assertIsNone(kernel_dice(whole_game((0, 2), (1, 2)), BOTH))

    def test_any_fractions(self):
        game = (((1, 2), (0, 1)), ((0, 1), (1, 10 ** 40)))
        half = 5 * 10 ** 39
        self.assertEqual(kernel_dice(game, BOTH), ((1, half + 1), (half, half + 1)))

    def test_a_kernels_answers_come_to_one_sum(self):
        for game in GAMES:
            for kernel in own_kernels(len(game), len(game[0])):
                dice = kernel_dice(game, kernel)
                if dice is not None:
                    parts = own(dice)
                    self.assertEqual(sum(parts), 1)
                    columns = list(zip(*game))
                    sums = {sum(part * Fraction(*number) for part, number in zip(parts, columns[answer]))
                            for answer in kernel[1]}
                    self.assertEqual(len(sums), 1)

    def test_wrong_kernels(self):
        game = whole_game((1, 2, 3), (4, 5, 6))
        self.each_refused(BadParameter, NO_KERNELS, kernel_dice, [game, None], 1)
        for acts, answers in product(range(1, 5), repeat=2):
            zeros = whole_game(*[(0,) * answers] * acts)
            known = own_kernels(acts, answers)
            for kernel in own_kernels(4, 4):
                if kernel not in known:
                    self.refused_value(BadParameter, kernel, kernel_dice, zeros, kernel)

    def test_a_wrong_game_ahead_of_a_wrong_kernel(self):
        for place, value in NO_GAMES:
            self.refused_place(place, BadGame, kernel_dice, value, ((0,), (0,)))
            self.refused_place(place, BadGame, kernel_dice, value, None)


class FirstKernelTest(RefusalCase):
    def test_the_first_one_whose_dice_meet_the_game(self):
        found = set()
        for game in GAMES + (GREAT,):
            first = None
            for kernel in own_kernels(len(game), len(game[0])):
                dice = own_dice(game, kernel)
                if dice is not None and is_met_by(game, dice):
                    first = kernel
                    break
            found.add(first and len(first[0]))
            self.assertEqual(first_kernel(game), first)
        self.assertLessEqual({None, 1, 2, 3}, found)

    def test_the_example(self):
        self.assertEqual(first_kernel(PENNIES), BOTH)
        for kernel in kernels(2, 2)[:4]:
            self.assertFalse(is_met_by(PENNIES, kernel_dice(PENNIES, kernel)))
        self.assertIsNone(first_kernel(ONE_ACT))

    def test_by_hand(self):
        self.assertEqual(first_kernel(NOUGHTS), ((0,), (0,)))
        self.assertEqual(first_kernel(ONE_NUMBER), ((0,), (0,)))
        self.assertEqual(first_kernel(ONE_ANSWER), ((1,), (0,)))
        self.assertEqual(first_kernel(STONES), ((0, 1, 2), (0, 1, 2)))
        self.assertIsNone(first_kernel(DIAGONAL))
        self.assertIsNone(first_kernel(ALIKE))
        self.assertIsNone(first_kernel((((1, 10 ** 40),),)))
        # A game of four by four that no fewer acts meet.
        shifted = tuple(tuple((4 * above - 1, 1) for above, _ in act) for act in DIAGONAL)
        self.assertEqual(first_kernel(shifted), ((0, 1, 2, 3), (0, 1, 2, 3)))
        # Just above nought no kernel does.
        above = tuple(tuple((10 ** 40 * number + 1, 10 ** 40) for number, _ in act) for act in shifted)
        self.assertIsNone(first_kernel(above))

    def test_answers_outside_of_the_kernel_count(self):
        self.assertEqual(first_kernel(whole_game((-1, 2), (-1, -1))), ((1,), (0,)))
        self.assertIsNone(first_kernel(whole_game((-1, 2), (-1, 1))))
        self.assertEqual(first_kernel(whole_game((1, -1, -3), (-1, 1, -3))), BOTH)
        self.assertIsNone(first_kernel(whole_game((1, -1, 1), (-1, 1, 1))))

    def test_little_games_are_met_exactly_if_a_kernel_meets_them(self):
        for game in LITTLE_GAMES:
            (a, b), (c, d) = [[number for number, _ in act] for act in game]
            # Two answers' sums change along straight lines with the first act's part.
            breaks = [Fraction(0), Fraction(1)]
            breaks += [Fraction(-two, one - two) for one, two in ((a, c), (b, d)) if one != two]
            some = any(0 <= t <= 1 and t * a + (1 - t) * c <= 0 and t * b + (1 - t) * d <= 0 for t in breaks)
            self.assertIs(first_kernel(game) is not None, some)

    def test_wrong_games(self):
        for place, value in NO_GAMES:
            self.refused_place(place, BadGame, first_kernel, value)


if __name__ == "__main__":
    unittest.main()
