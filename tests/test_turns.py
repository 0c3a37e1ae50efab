"""Promises 6 and 23: turns of shapes, their games, kernels' weights and sums in them."""

import unittest
from fractions import Fraction
from itertools import product

from tests.common import (
    CORNER, EXAMPLE_PAYS, FAN, FULL_PAYS, HALF_PLANE, MULTIPLES, NAMED_PAYS, NO_KERNELS, NO_PARTS, NO_PAYS, NO_SHAPES,
    NO_TURNS, OCTAGON, PARALLEL, POINT_OF_THREE, RAY, SEGMENT, SHAPES, SINGLE_POINT, SKEW_LINE, STRIP, TOLD_TWICE,
    TRIANGLE, UNEVEN_PAYS, WHOLE_LINE, RefusalCase, cofactor, made_pays, own_at, own_determinant, own_kernels,
    own_turns, pair, turn_cases,
)
from withinshapes.errors import BadParameter, BadPays, BadShape
from withinshapes.games import met, need_game
from withinshapes.polys import need_poly, roots_between
from withinshapes.squares import kernel_dice
from withinshapes.turns import game_at, kernel_meets, kernel_polys, turning, turns

PLACES = [Fraction(n, d) for n, d in ((0, 1), (1, 1), (1, 2), (1, 3), (3, 5), (1, 10 ** 20))]
BOTH = ((0, 1), (0, 1))
CASES = turn_cases(NAMED_PAYS + tuple(made_pays(16, 4)))


def own_number(pay, line):
    """A X + B Y - C of a pay."""
    return line[0] * pay[0] + line[1] * pay[1] - line[2]


def own_game(pays, shape, turn, place):
    """The numbers of the turn's game at a place: of both lines, mixed."""
    one, other = shape[turn[0]], shape[turn[1]]
    return [[(1 - place) * own_number(pay, one) + place * own_number(pay, other) for pay in act] for act in pays]


def own_weights(square):
    """For each row the sum of its cofactors."""
    size = range(len(square))
    return [sum(cofactor(square, row, column) for column in size) for row in size]


class TurnsTest(RefusalCase):
    def test_beside_tight_lines_and_corners(self):
        for shape in SHAPES:
            self.assertEqual(turns(shape), own_turns(shape))

    def test_by_hand(self):
        self.assertEqual(turns(CORNER), ((0, 0), (0, 1), (1, 1)))
        self.assertEqual(turns(HALF_PLANE), ((0, 0),))
        self.assertEqual(turns(TRIANGLE), ((0, 0), (0, 1), (0, 2), (1, 1), (1, 2), (2, 2)))
        self.assertEqual(turns(OCTAGON)[:4], ((0, 0), (0, 1), (0, 7), (1, 1)))
        self.assertEqual(len(turns(OCTAGON)), 16)

    def test_without_corners(self):
        for shape in (STRIP, WHOLE_LINE, SKEW_LINE):
            self.assertEqual(turns(shape), ((0, 0), (1, 1)))
        # Lines told twice along a half plane: each is tight, but at no corner.
        self.assertEqual(turns(((1, 0, 0), (1, 0, 0), (2, 0, 0))), ((0, 0), (1, 1), (2, 2)))
        self.assertEqual(turns(PARALLEL), ((1, 1),))

    def test_lines_that_are_tight_nowhere(self):
        self.assertEqual(turns(((1, 0, 0), (1, 0, 1), (0, 1, 0))), ((0, 0), (0, 2), (2, 2)))
        self.assertEqual(turns(((1, 1, 9), (1, 0, 0), (0, 1, 0))), ((1, 1), (1, 2), (2, 2)))
        # One goes by just at the corner.
        self.assertEqual(turns(((1, 1, 0), (1, 0, 0), (0, 1, 0))), own_turns(((1, 1, 0), (1, 0, 0), (0, 1, 0))))
        self.assertEqual(len(turns(((1, 1, 0), (1, 0, 0), (0, 1, 0)))), 6)

    def test_lines_told_twice(self):
        self.assertEqual(len(turns(TOLD_TWICE)), 10)
        # Multiples that are tight at one corner are a turn, too.
        self.assertEqual(turns(((1, 0, 0), (3, 0, 0), (0, 1, 0))), ((0, 0), (0, 1), (0, 2), (1, 1), (1, 2), (2, 2)))
        self.assertEqual(turns(MULTIPLES), own_turns(MULTIPLES))

    def test_many_lines_through_one_point(self):
        self.assertEqual(len(turns(FAN)), 6 + 15)
        eight = tuple((a, b, 0) for a, b in ((1, 0), (3, 1), (2, 1), (1, 1), (1, 2), (1, 3), (0, 1), (-1, 5)))
        self.assertEqual(turns(eight), tuple((i, j) for i in range(8) for j in range(i, 8)))

    def test_single_points_and_segments(self):
        self.assertEqual(turns(POINT_OF_THREE), ((0, 0), (0, 1), (0, 2), (1, 1), (1, 2), (2, 2)))
        # Lines that are opposite to one another meet at the corner, too.
        self.assertEqual(turns(SINGLE_POINT), tuple((i, j) for i in range(4) for j in range(i, 4)))
        self.assertEqual(turns(RAY), tuple((i, j) for i in range(3) for j in range(i, 3)))
        self.assertEqual(turns(SEGMENT), ((0, 0), (0, 1), (0, 2), (0, 3), (1, 1), (1, 2), (1, 3), (2, 2), (3, 3)))

    def test_wrong_shapes(self):
        for place, value in NO_SHAPES:
            self.refused_place(place, BadShape, turns, value)


class TurningTest(unittest.TestCase):
    def test_the_example(self):
        self.assertEqual(turning(EXAMPLE_PAYS, CORNER, (0, 1)), (((-1, 2), (1, -2)), ((1, -2), (-1, 2))))
        self.assertEqual(turning(EXAMPLE_PAYS, CORNER, (0, 0)), (((-1,), (1,)), ((1,), (-1,))))
        self.assertEqual(turning(EXAMPLE_PAYS, CORNER, (1, 1)), (((1,), (-1,)), ((-1,), (1,))))

    def test_thing_by_thing(self):
        for pays, shape, turn in CASES:
            game = turning(pays, shape, turn)
            self.assertEqual([len(act) for act in game], [len(act) for act in pays])
            for act, row in zip(pays, game):
                for pay, poly in zip(act, row):
                    first, last = own_number(pay, shape[turn[0]]), own_number(pay, shape[turn[1]])
                    told = (first, last - first)
                    while told and told[-1] == 0:
                        told = told[:-1]
                    self.assertEqual(poly, told)

    def test_a_line_by_itself_is_the_same_at_all_t(self):
        for pays, shape, turn in CASES:
            if turn[0] == turn[1]:
                self.assertLessEqual({len(poly) for act in turning(pays, shape, turn) for poly in act}, {0, 1})

    def test_noughts(self):
        self.assertEqual(turning((((0, 0),),), ((1, 0, 0), (0, 1, 0)), (0, 1)), (((),),))
        self.assertEqual(turning((((2, 0),),), ((1, 0, 0), (0, 1, 0)), (0, 1)), (((2, -2),),))
        self.assertEqual(turning((((0, 2),),), ((1, 0, 0), (0, 1, 0)), (0, 1)), (((0, 2),),))
        self.assertEqual(turning((((2, 2),),), ((1, 0, 0), (0, 1, 0)), (0, 1)), (((2,),),))
        # Opposite lines: nought at the middle.
        self.assertEqual(turning((((3, 5),),), SINGLE_POINT, (0, 1)), (((2, -4),),))


class GameAtTest(unittest.TestCase):
    def test_both_lines_mixed(self):
        for pays, shape, turn in CASES:
            for place in PLACES:
                game = game_at(pays, shape, turn, pair(place))
                told = own_game(pays, shape, turn, place)
                self.assertEqual(game, tuple(tuple(pair(number) for number in act) for act in told))
                self.assertIs(need_game(game), game)

    def test_the_turning_game_with_t_for_t(self):
        for pays, shape, turn in CASES[::5]:
            for place in PLACES:
                told = [[pair(own_at(poly, place)) for poly in act] for act in turning(pays, shape, turn)]
                self.assertEqual([list(act) for act in game_at(pays, shape, turn, pair(place))], told)

    def test_by_hand(self):
        game = game_at(EXAMPLE_PAYS, CORNER, (0, 1), (1, 3))
        self.assertEqual(game, (((-1, 3), (1, 3)), ((1, 3), (-1, 3))))
        self.assertEqual(game_at(EXAMPLE_PAYS, CORNER, (0, 1), (1, 2)), (((0, 1), (0, 1)), ((0, 1), (0, 1))))
        self.assertEqual(game_at(EXAMPLE_PAYS, CORNER, (0, 1), (0, 1)), game_at(EXAMPLE_PAYS, CORNER, (0, 0), (2, 3)))
        self.assertEqual(game_at(EXAMPLE_PAYS, CORNER, (0, 1), (1, 1)), game_at(EXAMPLE_PAYS, CORNER, (1, 1), (2, 3)))


class KernelPolysTest(unittest.TestCase):
    def test_the_example(self):
        self.assertEqual(kernel_polys(EXAMPLE_PAYS, CORNER, (0, 1), BOTH), (((-2, 4), (-2, 4)), ((), ())))

    def test_one_act_and_one_answer(self):
        for pays, shape, turn in CASES[::7]:
            for act in range(len(pays)):
                weights, sums = kernel_polys(pays, shape, turn, ((act,), (0,)))
                self.assertEqual(weights, ((1,),))
                self.assertEqual(sums, turning(pays, shape, turn)[act])

    def test_beside_cofactors_of_numbers(self):
        for pays, shape, turn in CASES[::6]:
            games = {place: own_game(pays, shape, turn, place) for place in PLACES}
            for kernel in own_kernels(len(pays), len(pays[0]))[::3] + own_kernels(len(pays), len(pays[0]))[-1:]:
                weights, sums = kernel_polys(pays, shape, turn, kernel)
                acts, answers = kernel
                self.assertEqual((len(weights), len(sums)), (len(acts), len(pays[0])))
                # So few powers that six places tell each of them.
                self.assertTrue(all(len(need_poly(weight)) <= len(acts) for weight in weights))
                self.assertTrue(all(len(need_poly(total)) <= len(acts) + 1 for total in sums))
                for place, game in games.items():
                    square = [[game[act][answer] for answer in answers] for act in acts]
                    told = own_weights(square)
                    self.assertEqual([own_at(weight, place) for weight in weights], told)
                    for answer, total in enumerate(sums):
                        number = sum(weight * game[act][answer] for weight, act in zip(told, acts))
                        self.assertEqual(own_at(total, place), number)
                        if answer in answers:
                            self.assertEqual(number, own_determinant(square))

    def test_the_kernels_own_answers_have_one_sum(self):
        for pays, shape, turn in CASES[::4]:
            for kernel in own_kernels(len(pays), len(pays[0]))[::4]:
                _, sums = kernel_polys(pays, shape, turn, kernel)
                self.assertEqual(len({sums[answer] for answer in kernel[1]}), 1)

    def test_by_hand(self):
        # The game T, 1 - T; 1, 2 T by lines through the origin.
        pays = (((0, 1), (1, 0)), ((1, 1), (0, 2)))
        shape = ((1, 0, 0), (0, 1, 0))
        self.assertEqual(turning(pays, shape, (0, 1)), (((0, 1), (1, -1)), ((1,), (0, 2))))
        # Weights 2 T - 1 and T - (1 - T), the sum T (2 T - 1) + (2 T - 1) of the first answer.
        weights, sums = kernel_polys(pays, shape, (0, 1), BOTH)
        self.assertEqual(weights, ((-1, 2), (-1, 2)))
        self.assertEqual(sums, ((-1, 1, 2), (-1, 1, 2)))
        self.assertEqual(kernel_polys(pays, shape, (0, 1), ((1,), (0,))), (((1,),), ((1,), (0, 2))))

    def test_weights_that_are_nought_throughout(self):
        pays = (((1, 2), (1, 2)), ((3, 4), (3, 4)))
        self.assertEqual(kernel_polys(pays, CORNER, (0, 1), BOTH), (((), ()), ((), ())))


class KernelMeetsTest(unittest.TestCase):
    def test_beside_the_kernels_dice(self):
        told = {True: 0, False: 0}
        for pays, shape, turn in CASES[::8]:
            for kernel, place in product(own_kernels(len(pays), len(pays[0]))[::2], PLACES[:5]):
                game = own_game(pays, shape, turn, place)
                acts, answers = kernel
                weights = own_weights([[game[act][answer] for answer in answers] for act in acts])
                total = sum(weights)
                alike = all(weight >= 0 for weight in weights) or all(weight <= 0 for weight in weights)
                right = total != 0 and alike and all(
                    sum(weight * game[act][answer] for weight, act in zip(weights, acts)) / total <= 0
                    for answer in range(len(pays[0]))
                )
                told[right] += 1
                self.assertIs(kernel_meets(pays, shape, turn, kernel, pair(place)), right)
        self.assertGreater(min(told.values()), 300)

    def test_the_example(self):
        for t, meets in (((0, 1), True), ((1, 3), True), ((1, 2), False), ((2, 3), True), ((1, 1), True)):
            self.assertIs(kernel_meets(EXAMPLE_PAYS, CORNER, (0, 1), BOTH, t), meets)
        # At 1/2 all numbers are nought: each act alone meets the game there.
        for kernel in own_kernels(2, 2)[:4]:
            self.assertIs(kernel_meets(EXAMPLE_PAYS, CORNER, (0, 1), kernel, (1, 2)), True)
            self.assertIs(kernel_meets(EXAMPLE_PAYS, CORNER, (0, 1), kernel, (1, 3)), False)

    def test_a_game_that_is_met_is_met_by_a_kernel(self):
        for pays, shape, turn in CASES[::5]:
            kernels = own_kernels(len(pays), len(pays[0]))
            for place in PLACES[:4]:
                t = pair(place)
                some = any(kernel_meets(pays, shape, turn, kernel, t) for kernel in kernels)
                self.assertIs(some, met(game_at(pays, shape, turn, t))[0] == "dice")

    def test_a_kernel_that_meets_does_so_up_to_its_own_roots(self):
        for pays, shape, turn in CASES[::16]:
            for kernel in own_kernels(len(pays), len(pays[0]))[::3]:
                polys = [poly for polys in kernel_polys(pays, shape, turn, kernel) for poly in polys if poly]
                for low, high in (((0, 1), (1, 3)), ((1, 3), (1, 2)), ((0, 1), (1, 1))):
                    if not any(roots_between(poly, low, high) for poly in polys):
                        inside = [Fraction(*low) + (Fraction(*high) - Fraction(*low)) * part / 7 for part in (1, 3, 6)]
                        found = {kernel_meets(pays, shape, turn, kernel, pair(place)) for place in inside}
                        self.assertEqual(len(found), 1)

    def test_by_its_dice_in_the_game_at_t(self):
        kernel = ((0, 2), (1, 3))
        for t in ((0, 1), (1, 2), (4, 5)):
            dice = kernel_dice(game_at(FULL_PAYS, TRIANGLE, (0, 2), t), kernel)
            self.assertIs(dice is None and kernel_meets(FULL_PAYS, TRIANGLE, (0, 2), kernel, t), False)


class WrongParametersTest(RefusalCase):
    """Pays, then the shape, then the turn, then the kernel, then t."""

    CALLS = (
        (turning, (EXAMPLE_PAYS, CORNER, (0, 1))),
        (game_at, (EXAMPLE_PAYS, CORNER, (0, 1), (1, 2))),
        (kernel_polys, (EXAMPLE_PAYS, CORNER, (0, 1), BOTH)),
        (kernel_meets, (EXAMPLE_PAYS, CORNER, (0, 1), BOTH, (1, 2))),
    )

    def test_wrong_pays(self):
        for place, value in NO_PAYS:
            for call, right in self.CALLS:
                self.refused_place(place, BadPays, call, value, *right[1:])
        for place, value in NO_PAYS[::40]:
            for call, right in self.CALLS:
                self.refused_place(place, BadPays, call, value, *[None for _ in right[1:]])

    def test_wrong_shapes(self):
        for place, value in NO_SHAPES:
            for call, right in self.CALLS:
                self.refused_place(place, BadShape, call, right[0], value, *right[2:])
        for place, value in NO_SHAPES[::40]:
            for call, right in self.CALLS:
                self.refused_place(place, BadShape, call, right[0], value, *[None for _ in right[2:]])

    def test_wrong_turns(self):
        for call, right in self.CALLS:
            self.each_refused(BadParameter, NO_TURNS + ((0, 2), (2, 2), (1, 2)), call, right, 2)
            for value in NO_TURNS:
                self.refused_value(BadParameter, value, call, *right[:2], value, *[() for _ in right[3:]])

    def test_pairs_of_lines_that_are_no_turns(self):
        for shape in SHAPES[::3]:
            known = own_turns(shape)
            for turn in product(range(-1, len(shape) + 1), repeat=2):
                if turn in known:
                    self.assertEqual(len(turning(UNEVEN_PAYS, shape, turn)), 2)
                else:
                    self.refused_value(BadParameter, turn, turning, UNEVEN_PAYS, shape, turn)

    def test_wrong_kernels(self):
        self.each_refused(BadParameter, NO_KERNELS, kernel_polys, [UNEVEN_PAYS, CORNER, (0, 1), None], 3)
        self.each_refused(BadParameter, NO_KERNELS, kernel_meets, [UNEVEN_PAYS, CORNER, (0, 1), None, (1, 2)], 3)
        for value in NO_KERNELS:
            self.refused_value(BadParameter, value, kernel_meets, UNEVEN_PAYS, CORNER, (0, 1), value, ())

    def test_wrong_t(self):
        self.each_refused(BadParameter, NO_PARTS, game_at, [EXAMPLE_PAYS, CORNER, (0, 1), None], 3)
        self.each_refused(BadParameter, NO_PARTS, kernel_meets, [EXAMPLE_PAYS, CORNER, (0, 1), BOTH, None], 4)


if __name__ == "__main__":
    unittest.main()
