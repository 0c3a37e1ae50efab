"""Promises 31, 32 and 33: walls with odds, answers against DICE, means by odds."""

import unittest
from fractions import Fraction
from itertools import product
from math import prod

from tests.common import (
    CORNER, EXAMPLE_PAYS, NAMED_PAYS, NO_HALVES, NO_PAYS, NO_WALLS, OTHER_KINDS, SHAPES, UNEVEN_PAYS, RefusalCase,
    Strange, made_pays, own, own_mean, pair, shares_for,
)
from withinshapes.errors import BadDice, BadOdds, BadParameter, BadPays
from withinshapes.keeping import kept_answer, kept_row, mean_by_odds, paper_margin
from withinshapes.leading import is_led, lead
from withinshapes.points import pay_by

EVEN = ((1, 2), (1, 2))
FIRST, LAST = ((1, 1), (0, 1)), ((0, 1), (1, 1))
PAPER = ((1, 0, 0), EVEN)
ALL_PAYS = NAMED_PAYS + tuple(made_pays(32, 31))


def made_papers():
    """Pays, each with a paper that some shape is kept out, and the shape."""
    found = []
    for at, pays in enumerate(ALL_PAYS):
        for shape in SHAPES[at % 6::6]:
            word, paper = lead(pays, shape)
            if word == "out":
                found.append((pays, paper, shape))
    return found


PAPERS = made_papers()

# What is no paper for the first example.
NO_PAPERS = OTHER_KINDS + (
    1, PAPER[:1], PAPER + (None,), list(PAPER), PAPER[::-1], ("out", PAPER), (PAPER,), ((1, 0, 0), ((1, 1),)),
    # Walls that let an act's mean, by far or just so.
    ((1, 0, 1), EVEN), ((2, 0, 1), EVEN), ((-1, 0, 0), EVEN), ((1, 0, 0), FIRST), ((1, 0, 0), LAST),
    ((2 * 10 ** 40, 0, 10 ** 40), EVEN), ((1, -1, 0), EVEN), ((Strange(), 0, 0), EVEN), ((1, 0, 0), Strange()),
) + tuple((value, EVEN) for value in NO_WALLS) + tuple(((1, 0, 0), value) for value in NO_HALVES)

# What is no tuple of 1 to 200 things.
NO_DICES = [value for value in OTHER_KINDS if type(value) is not tuple or value == ()] + [
    1, [FIRST], {FIRST: 1}, (FIRST,) * 201, (None,) * 201,
]


def own_pay(pays, dice, answer):
    """The pay of a round in Python's own fractions."""
    return own_mean([act[answer] for act in pays], dice)


def along(wall, point):
    """A X + B Y - C of a wall at a point."""
    return wall[0] * point[0] + wall[1] * point[1] - wall[2]


def own_margin(pays, paper):
    """The least A X + B Y - C at the means of the acts."""
    wall, odds = paper
    return min(along(wall, own_mean(act, odds)) for act in pays)


def own_answer(pays, paper, dice):
    """The first answer that pays farthest along."""
    fars = [along(paper[0], own_pay(pays, dice, answer)) for answer in range(len(pays[0]))]
    return fars.index(max(fars))


def point(values):
    """The POINT of Python's own fractions."""
    return tuple(pair(value) for value in values)


class MarginTest(RefusalCase):
    def test_the_least_over_the_acts(self):
        self.assertGreater(len(PAPERS), 150)
        for pays, paper, _ in PAPERS:
            margin = paper_margin(pays, paper)
            self.assertEqual(margin, pair(own_margin(pays, paper)))
            self.assertGreater(margin[0], 0)

    def test_the_example(self):
        self.assertEqual(paper_margin(EXAMPLE_PAYS, PAPER), (1, 2))

    def test_by_hand(self):
        self.assertEqual(paper_margin(EXAMPLE_PAYS, ((1, 0, 0), ((1, 3), (2, 3)))), (1, 3))
        self.assertEqual(paper_margin(EXAMPLE_PAYS, ((2, 0, -3), EVEN)), (4, 1))
        self.assertEqual(paper_margin(EXAMPLE_PAYS, ((3, 1, 1), EVEN)), (1, 1))
        self.assertEqual(paper_margin((((5, 7),),), ((1, 1, 11), ((1, 1),))), (1, 1))
        # No shape is asked for, and walls are of any size.
        great = 10 ** 40
        self.assertEqual(paper_margin(EXAMPLE_PAYS, ((2 * great, 0, great - 1), EVEN)), (1, 1))
        self.assertEqual(paper_margin(EXAMPLE_PAYS, ((1, 0, -great), EVEN)), (2 * great + 1, 2))
        self.assertEqual(paper_margin(EXAMPLE_PAYS, ((1, 0, 0), ((1, great), (great - 1, great)))), (1, great))

    def test_what_is_no_paper(self):
        self.each_refused(BadParameter, NO_PAPERS, paper_margin, [EXAMPLE_PAYS, None], 1)
        self.each_refused(BadParameter, NO_PAPERS, kept_answer, [EXAMPLE_PAYS, None, EVEN], 1)
        self.each_refused(BadParameter, NO_PAPERS, kept_row, [EXAMPLE_PAYS, None, (EVEN,)], 1)

    def test_a_paper_of_other_pays(self):
        paper = ((1, 0, 0), ((1, 3),) * 3)
        self.refused_value(BadParameter, paper, paper_margin, EXAMPLE_PAYS, paper)
        self.refused_value(BadParameter, PAPER, paper_margin, UNEVEN_PAYS, PAPER)


class KeptTest(RefusalCase):
    def test_the_example(self):
        self.assertEqual(kept_answer(EXAMPLE_PAYS, PAPER, FIRST), 1)
        self.assertEqual(kept_answer(EXAMPLE_PAYS, PAPER, LAST), 0)
        self.assertEqual(kept_row(EXAMPLE_PAYS, PAPER, (FIRST,)), ((1,), (((1, 1), (0, 1)),)))

    def test_the_first_of_the_farthest(self):
        self.assertEqual(kept_answer(EXAMPLE_PAYS, PAPER, EVEN), 0)
        pays = (((1, 0), (2, 5), (2, -5), (2, 0)),)
        self.assertEqual(kept_answer(pays, ((1, 0, 0), ((1, 4),) * 4), ((1, 1),)), 1)
        self.assertEqual(kept_answer(pays, ((1, 1, 0), ((1, 4),) * 4), ((1, 1),)), 1)
        self.assertEqual(kept_answer(pays, ((1, -1, -9), ((1, 4),) * 4), ((1, 1),)), 2)
        self.assertEqual(kept_answer(pays, ((-1, 0, -5), ((1, 4),) * 4), ((1, 1),)), 0)

    def test_told_answers_against_dice(self):
        for pays, paper, _ in PAPERS:
            margin = own_margin(pays, paper)
            for dice in shares_for(len(pays)):
                answer = kept_answer(pays, paper, dice)
                self.assertEqual(answer, own_answer(pays, paper, dice))
                self.assertGreaterEqual(along(paper[0], own_pay(pays, dice, answer)), margin)

    def test_means_beyond_the_wall_behind_every_round(self):
        for at, (pays, paper, shape) in enumerate(PAPERS):
            dices = tuple(shares_for(len(pays)) * 3)[at % 3:]
            answers, means = kept_row(pays, paper, dices)
            self.assertEqual(answers, tuple(own_answer(pays, paper, dice) for dice in dices))
            self.assertEqual(len(means), len(dices))
            told = [own_pay(pays, dice, answer) for dice, answer in zip(dices, answers)]
            for number, mean in enumerate(means):
                sums = [sum(pay[thing] for pay in told[:number + 1]) / (number + 1) for thing in (0, 1)]
                self.assertEqual(mean, point(sums))
                self.assertGreaterEqual(along(paper[0], own(mean)), own_margin(pays, paper))
                self.assertFalse(all(a * x + b * y <= c for a, b, c in shape for x, y in [own(mean)]))
            self.assertIs(is_led(pays, shape), False)

    def test_two_hundred_dice_and_no_more(self):
        dices = (FIRST, LAST) * 100
        answers, means = kept_row(EXAMPLE_PAYS, PAPER, dices)
        self.assertEqual(answers, (1, 0) * 100)
        self.assertEqual(means, (((1, 1), (0, 1)),) * 200)
        self.assertEqual(mean_by_odds(EXAMPLE_PAYS, EVEN, dices), EVEN)
        for call in (kept_row, mean_by_odds):
            right = PAPER if call is kept_row else EVEN
            more = dices + (FIRST,)
            self.refused_value(BadParameter, more, call, EXAMPLE_PAYS, right, more)

    def test_wrong_dice(self):
        self.each_refused(BadDice, NO_HALVES, kept_answer, [EXAMPLE_PAYS, PAPER, None], 2)
        for call, right in ((kept_row, PAPER), (mean_by_odds, EVEN)):
            self.each_refused(BadParameter, NO_DICES, call, [EXAMPLE_PAYS, right, None], 2)
            for value in NO_HALVES:
                self.refused_value(BadDice, value, call, EXAMPLE_PAYS, right, (value,))
                self.refused_value(BadDice, value, call, EXAMPLE_PAYS, right, (FIRST, value, None))
                self.refused_value(BadDice, value, call, EXAMPLE_PAYS, right, (FIRST,) * 199 + (value,))
            # More than 200 things are refused as a whole, whatever they are.
            many = (None,) * 201
            self.refused_value(BadParameter, many, call, EXAMPLE_PAYS, right, many)


class MeanByOddsTest(RefusalCase):
    def test_over_all_rows_of_answers(self):
        for at, pays in enumerate(ALL_PAYS):
            for odds in shares_for(len(pays[0]))[at % 2::2]:
                for many in (1, 2, 3):
                    dices = tuple((shares_for(len(pays)) * 5)[at % 3:][:many])
                    total = [Fraction(0), Fraction(0)]
                    parts = own(odds)
                    for row in product(range(len(parts)), repeat=many):
                        likely = prod((parts[answer] for answer in row), start=Fraction(1))
                        told = [own_pay(pays, dice, answer) for dice, answer in zip(dices, row)]
                        for thing in (0, 1):
                            total[thing] += likely * sum(pay[thing] for pay in told) / many
                    self.assertEqual(mean_by_odds(pays, odds, dices), point(total))

    def test_the_mean_of_what_the_dice_pay_by_the_odds(self):
        for pays in ALL_PAYS:
            dices = tuple(shares_for(len(pays)))
            for odds in shares_for(len(pays[0])):
                told = [own(pay_by(pays, dice, odds)) for dice in dices]
                mean = [sum(pay[thing] for pay in told) / len(told) for thing in (0, 1)]
                self.assertEqual(mean_by_odds(pays, odds, dices), point(mean))

    def test_beyond_by_the_margin(self):
        for pays, paper, _ in PAPERS:
            mean = mean_by_odds(pays, paper[1], tuple(shares_for(len(pays))))
            self.assertGreaterEqual(along(paper[0], own(mean)), own_margin(pays, paper))

    def test_the_example(self):
        for dices in ((FIRST,), (LAST,), (EVEN, FIRST), (((1, 3), (2, 3)),) * 7):
            self.assertEqual(mean_by_odds(EXAMPLE_PAYS, EVEN, dices), EVEN)
        self.assertEqual(mean_by_odds(EXAMPLE_PAYS, ((1, 4), (3, 4)), (FIRST, EVEN)), ((5, 8), (3, 8)))

    def test_wrong_odds(self):
        self.each_refused(BadOdds, NO_HALVES, mean_by_odds, [EXAMPLE_PAYS, None, (FIRST,)], 1)


class OrderTest(RefusalCase):
    CALLS = ((paper_margin, (PAPER,)), (kept_answer, (PAPER, FIRST)), (kept_row, (PAPER, (FIRST,))),
             (mean_by_odds, (EVEN, (FIRST,))))

    def test_wrong_pays(self):
        for call, more in self.CALLS:
            for place, value in NO_PAYS:
                self.refused_place(place, BadPays, call, value, *more)
            for place, value in NO_PAYS[::40]:
                self.refused_place(place, BadPays, call, value, *[None for _ in more])

    def test_the_first_wrong_one_is_told(self):
        self.refused_value(BadParameter, None, kept_answer, EXAMPLE_PAYS, None, ())
        self.refused_value(BadParameter, None, kept_row, EXAMPLE_PAYS, None, ())
        self.refused_value(BadOdds, None, mean_by_odds, EXAMPLE_PAYS, None, ())
        self.refused_value(BadParameter, (), kept_row, EXAMPLE_PAYS, PAPER, ())
        self.refused_value(BadDice, (2, 4), kept_row, EXAMPLE_PAYS, PAPER, (FIRST, (2, 4), [], FIRST))

    def test_shapes_that_are_led_have_no_paper(self):
        wrong = ((2, 0, 1), EVEN)
        self.assertIs(is_led(EXAMPLE_PAYS, CORNER), True)
        self.refused_value(BadParameter, wrong, paper_margin, EXAMPLE_PAYS, wrong)


if __name__ == "__main__":
    unittest.main()
