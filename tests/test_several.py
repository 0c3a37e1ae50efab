"""Promises 41, 42 and 43: several pays by turns, regrets, at least so much while at most so much."""

import unittest
from fractions import Fraction
from itertools import product

from tests.common import (
    APART, CORNER, EXAMPLE_PAYS, FULL_PAYS, HALF_PLANE, NAMED_PAYS, NO_HALVES, NO_PAYS, NO_SHAPES, NO_WALLS, OCTAGON,
    ONE_ACT_PAYS, ONE_ANSWER_PAYS, OTHER_KINDS, SHAPES, SINGLE_PAY, TALL_PAYS, UNEVEN_PAYS, RefusalCase, Strange,
    let_by, made_pays, own, own_mean, pair,
)
from withinshapes.ends import squared_from
from withinshapes.errors import BadParameter, BadPays, BadShape, NoDice
from withinshapes.keeping import kept_answer, kept_row
from withinshapes.leading import is_lead, is_led, lead
from withinshapes.points import need_pays
from withinshapes.several import (
    all_led, by_turns, is_all_led, need_several, regret_shape, regrets, while_shape,
)
from withinshapes.shapes import lets, need_shape
from withinshapes.steering import exact_dice, guarantee, rounded, steered

EVEN = ((1, 2), (1, 2))
FIRST, LAST = ((1, 1), (0, 1)), ((0, 1), (1, 1))
LEFT = ((1, 0, 0),)
AXES = ((1, 0, 0), (0, 1, 0))
ALL_PAYS = NAMED_PAYS + tuple(made_pays(32, 91)) + tuple(made_pays(16, 92, 5))
# One to four of them, of unlike numbers of acts and answers.
LOTS = [ALL_PAYS[at:at + 1 + at % 4] for at in range(0, len(ALL_PAYS), 2)] + [
    (EXAMPLE_PAYS, UNEVEN_PAYS, FULL_PAYS, SINGLE_PAY), (EXAMPLE_PAYS,) * 4, (TALL_PAYS, ONE_ACT_PAYS),
]
CASES = [(several, shape) for at, several in enumerate(LOTS) for shape in SHAPES[at % 9::9]]
LED = [(several, shape) for several, shape in CASES if all(is_led(pays, shape) for pays in several)]


def rows_for(several, many):
    """Some rows of rounds: by turns, one alone, all over."""
    rows = []
    for step in (0, 1, 3):
        row = []
        for at in range(many):
            number = (at * step + at // 3) % len(several)
            row.append((number, (at + at // 4) % len(several[number][0])))
        rows.append(tuple(row))
    return rows


def greatest_of_all(several):
    """The greatest squared distance of any two pays of all of them."""
    told = [pay for pays in several for act in pays for pay in act]
    return max((a - c) ** 2 + (b - d) ** 2 for a, b in told for c, d in told)


def own_by_turns(several, shape, rounds):
    """DICES and MEANS by the told rule, round by round."""
    dices, means, total = [], [], [Fraction(0), Fraction(0)]
    for behind, (number, answer) in enumerate(rounds):
        pays = several[number]
        dice = ((1, 1),) + ((0, 1),) * (len(pays) - 1)
        if means and not lets(shape, means[-1]):
            dice = rounded(exact_dice(pays, shape, means[-1]), behind)
        pay = own_mean([act[answer] for act in pays], dice)
        total = [total[at] + pay[at] for at in (0, 1)]
        dices.append(dice)
        means.append(tuple(pair(number / (behind + 1)) for number in total))
    return tuple(dices), tuple(means)


class NeedSeveralTest(RefusalCase):
    def test_one_to_four_are_returned(self):
        for several in LOTS:
            self.assertIs(need_several(several), several)
        for many in range(1, 5):
            several = (FULL_PAYS,) * many
            self.assertIs(need_several(several), several)

    def test_wrong_as_a_whole(self):
        for value in OTHER_KINDS + (1, [EXAMPLE_PAYS], {0: EXAMPLE_PAYS}, (EXAMPLE_PAYS,) * 5, (None,) * 5):
            if type(value) is not tuple or not 1 <= len(value) <= 4:
                self.refused_place((), BadPays, need_several, value)

    def test_the_first_thing_that_is_none(self):
        for place, value in NO_PAYS:
            self.refused_place((0,) + place, BadPays, need_several, (value,))
            self.refused_place((1,) + place, BadPays, need_several, (EXAMPLE_PAYS, value, None))
            self.refused_place((3,) + place, BadPays, need_several, (EXAMPLE_PAYS, SINGLE_PAY, FULL_PAYS, value))
        # PAYS themselves are no SEVERAL.
        self.refused_place((0, 0, 0), BadPays, need_several, EXAMPLE_PAYS)

    def test_every_function_checks_them_so(self):
        calls = ((all_led, (CORNER,)), (is_all_led, (CORNER, None)), (by_turns, (CORNER, ())))
        for call, more in calls:
            for place, value in NO_PAYS[::3]:
                self.refused_place((1,) + place, BadPays, call, (SINGLE_PAY, value), *more)
                self.refused_place((0,) + place, BadPays, call, (value,), *[None for _ in more])
            for value in ((), None, [EXAMPLE_PAYS], (EXAMPLE_PAYS,) * 5):
                self.refused_place((), BadPays, call, value, *more)
            for place, value in NO_SHAPES[::2]:
                self.refused_place(place, BadShape, call, (EXAMPLE_PAYS,), value, *more[1:])
            self.refused_place((), BadShape, call, (EXAMPLE_PAYS,), APART, *[None for _ in more[1:]])


class AllLedTest(RefusalCase):
    def test_each_led_or_the_first_that_keeps_out(self):
        found = {"led": 0, "out": 0, "later": 0}
        for several, shape in CASES:
            value = all_led(several, shape)
            outs = [number for number, pays in enumerate(several) if not is_led(pays, shape)]
            if outs:
                word, number, paper = value
                found["later" if number else "out"] += 1
                self.assertEqual((word, number), ("out", outs[0]))
                self.assertIs(is_lead(several[number], shape, ("out", paper)), True)
            else:
                found["led"] += 1
                word, leads = value
                self.assertEqual((word, len(leads)), ("led", len(several)))
                for pays, paper in zip(several, leads):
                    self.assertEqual(paper[0], "led")
                    self.assertIs(is_lead(pays, shape, paper), True)
            self.assertIs(is_all_led(several, shape, value), True)
        self.assertGreater(min(found.values()), 20)

    def test_one_alone(self):
        for pays, shape in ((EXAMPLE_PAYS, CORNER), (EXAMPLE_PAYS, LEFT), (ONE_ACT_PAYS, CORNER)):
            word, paper = lead(pays, shape)
            if word == "led":
                self.assertEqual(all_led((pays,), shape), ("led", (("led", paper),)))
            else:
                self.assertEqual(all_led((pays,), shape), ("out", 0, paper))

    def test_by_hand(self):
        self.assertEqual(all_led((EXAMPLE_PAYS, ONE_ACT_PAYS), CORNER)[:2], ("out", 1))
        self.assertEqual(all_led((EXAMPLE_PAYS, EXAMPLE_PAYS, ONE_ACT_PAYS, ONE_ACT_PAYS), CORNER)[:2], ("out", 2))
        self.assertEqual(all_led((EXAMPLE_PAYS, ONE_ANSWER_PAYS), CORNER)[0], "led")


class IsAllLedTest(RefusalCase):
    SEVERAL = (EXAMPLE_PAYS, ONE_ANSWER_PAYS)
    OUTS = (EXAMPLE_PAYS, ONE_ACT_PAYS, ONE_ACT_PAYS)

    def left(self, value, several=SEVERAL, shape=CORNER):
        self.assertIs(is_all_led(several, shape, value), False)

    def taken(self, value, several=SEVERAL, shape=CORNER):
        self.assertIs(is_all_led(several, shape, value), True)

    def test_leads_of_all_in_their_order(self):
        leads = tuple(lead(pays, CORNER) for pays in self.SEVERAL)
        self.taken(("led", leads))
        for value in (leads[:1], leads + leads[:1], leads[::-1], (leads[0], leads[0]), (), leads[0], list(leads),
                      (leads[0], None), (leads[0], ("led", ())), (leads[0][1], leads[1][1]),
                      (leads[0], ("out", leads[1][1])), (leads[0], ("Led", leads[1][1])), (leads[0], list(leads[1])),
                      (leads[0], leads[1] + (None,)), (leads[0], leads[1][:1]), (leads[0], (Strange(), leads[1][1])),
                      (leads[0], ("led", Strange())), (Strange(), Strange())):
            self.left(("led", value))
        self.left(("out", leads))
        self.left(("led", 0, leads))
        self.left(("led", leads, None))

    def test_no_paper_that_is_out_within_leads(self):
        leads = (lead(EXAMPLE_PAYS, CORNER), lead(ONE_ACT_PAYS, CORNER), lead(ONE_ACT_PAYS, CORNER))
        self.assertEqual([word for word, _ in leads], ["led", "out", "out"])
        self.left(("led", leads), self.OUTS)

    def test_the_first_one_alone(self):
        paper = lead(ONE_ACT_PAYS, CORNER)[1]
        self.taken(("out", 1, paper), self.OUTS)
        self.taken(("out", 1, paper), self.OUTS[:2])
        # Kept out by it as well, but not the first one.
        self.left(("out", 2, paper), self.OUTS)
        for number in (-1, 0, 3, True, None, 1.0, "1", (1,), 10 ** 40):
            self.left(("out", number, paper), self.OUTS)
        self.left(("out", True, paper), self.OUTS)
        self.left(("out", paper), self.OUTS)
        self.left(("out", 1, ("out", paper)), self.OUTS)
        self.left(("led", 1, paper), self.OUTS)

    def test_other_papers(self):
        case = (self.OUTS, CORNER)
        for wall, odds in (((2, 0, 1), FIRST), ((0, 2, 1), LAST), ((1, 0, 0), FIRST), ((10 ** 40, 0, 10 ** 40 - 1), FIRST)):
            let = own_lets(wall)
            self.assertIs(is_all_led(*case, ("out", 1, (wall, odds))), let)
        self.left(("out", 1, ((2, 0, 1), EVEN)), *case)
        self.left(("out", 1, ((2, 0, 2), FIRST)), *case)

    def test_values_that_are_none(self):
        led, out = all_led(self.SEVERAL, CORNER), all_led(self.OUTS, CORNER)
        for right, case in ((led, (self.SEVERAL, CORNER)), (out, (self.OUTS, CORNER))):
            self.taken(right, *case)
            for value in OTHER_KINDS + (1, right[:1], right + (None,), list(right), right[::-1], (Strange(),) * 2,
                                        (Strange(),) * 3):
                self.left(value, *case)
            for at in range(len(right)):
                for value in OTHER_KINDS:
                    self.left(right[:at] + (value,) + right[at + 1:], *case)
        for value in NO_WALLS:
            self.left(("out", 1, (value, FIRST)), self.OUTS)
        for value in NO_HALVES:
            self.left(("out", 1, ((2, 0, 1), value)), self.OUTS)


def own_lets(wall):
    """Whether a wall with A or B nought lets all of X and Y at most 1/2."""
    a, b, c = wall
    return min(a, b) >= 0 and Fraction(a + b, 2) <= c


class ByTurnsTest(RefusalCase):
    def test_round_by_round(self):
        for several, shape in LED:
            for rounds in rows_for(several, 9):
                self.assertEqual(by_turns(several, shape, rounds), own_by_turns(several, shape, rounds))

    def test_within_the_guarantee(self):
        for several, shape in LED[::2]:
            gap = greatest_of_all(several)
            for rounds in rows_for(several, 16):
                _, means = by_turns(several, shape, rounds)
                for number, mean in enumerate(means):
                    self.assertLessEqual(Fraction(*squared_from(shape, mean)), Fraction(5 * gap, number + 1))

    def test_every_row_of_a_few_rounds(self):
        cases = [case for case in LED if len(case[0]) > 1][::9]
        for several, shape in cases:
            things = [(number, answer) for number, pays in enumerate(several) for answer in range(len(pays[0]))]
            gap = greatest_of_all(several)
            for rounds in list(product(things, repeat=3))[::3]:
                _, means = by_turns(several, shape, rounds)
                for number, mean in enumerate(means):
                    self.assertLessEqual(Fraction(*squared_from(shape, mean)), Fraction(5 * gap, number + 1))

    def test_one_alone_is_steered(self):
        for several, shape in LED[::3]:
            for number, pays in enumerate(several):
                answers = tuple(at % len(pays[0]) for at in range(8))
                told = steered(pays, shape, answers)
                self.assertEqual(by_turns(several, shape, tuple((number, answer) for answer in answers)), told)

    def test_by_hand(self):
        several = (EXAMPLE_PAYS, ONE_ANSWER_PAYS, (((1, 1),),))
        self.assertEqual(by_turns(several, CORNER, ((0, 0), (0, 0))), steered(EXAMPLE_PAYS, CORNER, (0, 0)))
        dices, means = by_turns(several, CORNER, ((0, 0), (1, 0), (0, 1)))
        self.assertEqual(dices, (FIRST, LAST, FIRST))
        self.assertEqual(means, (((0, 1), (1, 1)), EVEN, ((2, 3), (1, 3))))

    def test_no_rounds(self):
        for several, shape in CASES[::20]:
            self.assertEqual(by_turns(several, shape, ()), ((), ()))

    def test_a_hundred_rounds_and_one_more(self):
        several = (EXAMPLE_PAYS, ONE_ANSWER_PAYS)
        rounds = ((0, 0), (1, 0), (0, 1), (0, 0)) * 25
        dices, means = by_turns(several, CORNER, rounds)
        self.assertEqual((len(dices), len(means)), (100, 100))
        self.assertEqual((dices, means), own_by_turns(several, CORNER, rounds))
        wrong = rounds + ((0, 0),)
        self.refused_value(BadParameter, wrong, by_turns, several, CORNER, wrong)

    def test_no_dice_as_there(self):
        # The first pays lead, the second ones don't.
        several = (EXAMPLE_PAYS, ONE_ACT_PAYS, (((0, -1),),))
        self.assertEqual(by_turns(several, CORNER, ((1, 0), (0, 0)))[1], (((1, 1), (0, 1)), ((3, 4), (1, 4))))
        error = self.refused(NoDice, by_turns, several, CORNER, ((1, 0), (1, 0)))
        self.assertEqual(error.odds, FIRST)
        self.refused(NoDice, by_turns, several, CORNER, ((0, 0), (1, 0), (0, 0)))
        # Behind a mean in the shape nobody looks.
        self.assertEqual(by_turns(several, CORNER, ((1, 0), (2, 0), (1, 0)))[1][1:],
                         (((1, 2), (-1, 2)), ((2, 3), (-1, 3))))
        self.refused(NoDice, by_turns, several, CORNER, ((1, 0), (0, 0), (1, 0)))

    def test_kept_out_as_long_as_one_alone_is_named(self):
        many = 0
        for several, shape in CASES[::4]:
            value = all_led(several, shape)
            if value[0] == "led":
                continue
            _, number, paper = value
            pays, (wall, _) = several[number], paper
            rounds = ()
            for _ in range(6):
                try:
                    # The dice don't hang on the round's own answer.
                    dice = by_turns(several, shape, rounds + ((number, 0),))[0][-1]
                except NoDice:
                    break
                rounds += ((number, kept_answer(pays, paper, dice)),)
                x, y = own(by_turns(several, shape, rounds)[1][-1])
                many += 1
                self.assertGreater(wall[0] * x + wall[1] * y, wall[2])
                self.assertFalse(let_by(shape, x, y))
            _, means = kept_row(pays, paper, (((1, len(pays)),) * len(pays),) * 5)
            for mean in means:
                self.assertFalse(let_by(shape, *own(mean)))
        self.assertGreater(many, 50)

    def test_wrong_rounds(self):
        several = (EXAMPLE_PAYS, ONE_ANSWER_PAYS)
        wrong = tuple(value for value in OTHER_KINDS if type(value) is not tuple or value != ()) + (
            1, [(0, 0)], {(0, 0): 0}, (0, 0), ((0,),), ((0, 0, 0),), ([0, 0],), ((0, 0), None), ((0, 0), (0, 2)),
            ((0, -1),), ((-1, 0),), ((2, 0),), ((1, 1),), ((0, 0), (1, 1)), ((True, 0),), ((0, False),), ((0.0, 0),),
            ((0, "0"),), ((None, 0),), ((0, None),), ((0, (0,)),), ((Strange(), 0),), ((0, Strange()),), (Strange(),),
            ((0, 10 ** 40),), ((0, 0),) * 101, (None,) * 101, "00", ("00",), (b"00",),
        )
        self.each_refused(BadParameter, wrong, by_turns, [several, CORNER, None], 2)
        self.assertEqual(by_turns(several, CORNER, ((1, 0), (0, 1)))[0][0], FIRST)


class RegretsTest(RefusalCase):
    WISHES = [
        (((1, 0), (0, 1))), ((5,), (-7,)), ((50, -50), (-50, 50)), ((0, 0, 0, 0), (1, 2, 3, 4)),
        ((9, -8, 7), (-6, 5, 50)), ((50,) * 4, (-50,) * 4), ((3, 3), (3, 3)),
    ]

    def test_by_how_much_each_would_have_been_better(self):
        for one, other in self.WISHES:
            told = (tuple((0, b - a) for a, b in zip(one, other)), tuple((a - b, 0) for a, b in zip(one, other)))
            self.assertEqual(regrets((one, other)), told)
            self.assertEqual(need_pays(told), told)

    def test_the_example(self):
        pays = regrets(((1, 0), (0, 1)))
        self.assertEqual(pays, (((0, -1), (0, 1)), ((1, 0), (-1, 0))))
        self.assertEqual(own_mean([act[0] for act in pays], EVEN), (Fraction(1, 2), Fraction(-1, 2)))
        self.assertEqual(own_mean([act[1] for act in pays], EVEN), (Fraction(-1, 2), Fraction(1, 2)))

    def test_their_shape_is_led(self):
        self.assertEqual(regret_shape(), ((1, 0, 0), (0, 1, 0)))
        self.assertEqual(need_shape(regret_shape()), AXES)
        little = [rows for many in (1, 2) for rows in product(product((-1, 0, 2), repeat=many), repeat=2)]
        for wishes in self.WISHES + little:
            self.assertIs(is_led(regrets(wishes), regret_shape()), True)

    def test_no_worse_than_either_act_in_the_long_run(self):
        for one, other in self.WISHES:
            pays = regrets((one, other))
            answers = tuple((at * at + at // 3) % len(one) for at in range(40))
            dices, means = steered(pays, AXES, answers)
            had = sum(own(dice)[0] * one[answer] + own(dice)[1] * other[answer] for dice, answer in zip(dices, answers))
            for act, at in ((one, 0), (other, 1)):
                # The mean's own numbers are by how much an act alone would have been better.
                better = Fraction(sum(act[answer] for answer in answers) - had, 40)
                self.assertEqual(pair(better), means[-1][at])
                self.assertLessEqual(max(better, 0) ** 2, Fraction(*guarantee(pays, 40, 0)))

    def test_fifty_and_one_to_four_answers(self):
        for number in (50, -50):
            for many in (1, 4):
                wishes = ((number,) * many, (-number,) * many)
                self.assertEqual(regrets(wishes), (((0, -2 * number),) * many, ((2 * number, 0),) * many))

    def test_what_is_no_wishes(self):
        right = (1, 2)
        wrong = OTHER_KINDS + (
            1, (right,), (right, right, right), [right, right], (right, [1, 2]), ([1, 2], right), (right, (1,)),
            ((1,), right), ((), ()), ((), right), (right, ()), ((0,) * 5, (0,) * 5), (right, (1, 51)), ((-51, 0), right),
            ((51, 0), right), (right, (0, -51)), ((10 ** 40, 0), right), ((True, 0), right), (right, (0, False)),
            ((1.0, 0), right), (right, (0, "1")), ((None, 0), right), (right, None), (None, right), (1, 2),
            (right, ((1, 1), (2, 1))), (Strange(), right), (right, Strange()), ((Strange(), 0), right),
            (right, (0, Strange())), ((0,) * 4, (0,) * 3),
        )
        self.each_refused(BadParameter, wrong, regrets, [None], 0)


class WhileShapeTest(RefusalCase):
    NUMBERS = (-1000, -7, 0, 3, 1000)

    def test_the_points_told_and_no_others(self):
        for least, most in product(self.NUMBERS, repeat=2):
            shape = while_shape(least, most)
            self.assertEqual(shape, ((-1, 0, -least), (0, 1, most)))
            self.assertEqual(need_shape(shape), shape)
            for dx, dy in product((Fraction(-1, 9), 0, Fraction(1, 9)), repeat=2):
                self.assertIs(let_by(shape, least + dx, most + dy), dx >= 0 and dy <= 0)
                self.assertIs(lets(shape, (pair(least + dx), pair(most + dy))), dx >= 0 and dy <= 0)

    def test_a_lesser_least_and_a_greater_most(self):
        found = {True: 0, False: 0}
        for pays in ALL_PAYS[::3]:
            for least, most in product((-4, -1, 0, 2, 30), repeat=2):
                led = is_led(pays, while_shape(least, most))
                found[led] += 1
                if led:
                    for more in (1, 5, 900):
                        self.assertIs(is_led(pays, while_shape(least - more, most)), True)
                        self.assertIs(is_led(pays, while_shape(least, most + more)), True)
        self.assertGreater(min(found.values()), 50)

    def test_wrong_numbers(self):
        wrong = OTHER_KINDS + (1001, -1001, 10 ** 40, (1, 1), "0")
        self.each_refused(BadParameter, wrong, while_shape, [None, 0], 0)
        self.each_refused(BadParameter, wrong, while_shape, [0, None], 1)
        self.each_refused(BadParameter, wrong, while_shape, [None, 1001], 0)
        self.each_refused(BadParameter, wrong, while_shape, [1000, None], 1)


class ShapeTest(unittest.TestCase):
    def test_shapes_of_all_kinds(self):
        self.assertEqual(all_led((SINGLE_PAY,), HALF_PLANE)[0], "led")
        self.assertEqual(all_led((SINGLE_PAY,), OCTAGON)[0], "led")


if __name__ == "__main__":
    unittest.main()
