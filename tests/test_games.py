"""Promises 6, 16, 17, 18 and 20: games of numbers, what they are worth, met or not, turned, made bare."""

import unittest
from fractions import Fraction
from itertools import product

from tests.common import (
    ALIKE, DIAGONAL, GAMES, LITTLE_GAMES, NOUGHTS, NO_FRACTIONS, NO_GAMES, NO_HALVES, ONE_ACT, ONE_ANSWER, ONE_NUMBER,
    OTHER_KINDS, PENNIES, STONES, RefusalCase, Strange, own, pair, whole_game,
)
from withinshapes.errors import BadDice, BadGame, BadOdds
from withinshapes.games import (
    bare_game, is_met, is_worth, met, need_game, sums_by, sums_of, turned_game, worth,
)
from withinshapes.squares import first_kernel, kernel_dice, kernels

HALVES = ((1, 2), (1, 2))
ALONE = ((1, 1),)
GREAT = (((10 ** 40, 3), (-(10 ** 40), 7)), ((-(10 ** 41) - 1, 10 ** 20), (1, 10 ** 40)))
ALL = GAMES + (GREAT,)


def shares_for(many):
    """Some tuples of so many parts of one."""
    alone = [tuple((int(i == j), 1) for j in range(many)) for i in range(many)]
    rising = tuple(pair(Fraction(2 * (i + 1), many * (many + 1))) for i in range(many))
    return alone + [((1, many),) * many, rising, rising[::-1]]


def own_sums(rows, shares):
    """The sum of each row's numbers, each times its part."""
    parts = own(shares)
    return tuple(pair(sum(part * number for part, number in zip(parts, own(row)))) for row in rows)


def changed(game, change):
    """The game with each number changed."""
    return tuple(tuple(pair(change(Fraction(*number))) for number in act) for act in game)


def own_bare(game):
    """Acts left out one by one, then answers, by the words of promise 20."""
    numbers = [own(act) for act in game]
    acts, answers = list(range(len(game))), list(range(len(game[0])))
    for act in range(len(game)):
        if any(all(numbers[other][at] <= numbers[act][at] for at in answers) for other in acts if other != act):
            acts.remove(act)
    for answer in range(len(game[0])):
        if any(all(numbers[at][other] >= numbers[at][answer] for at in acts) for other in answers if other != answer):
            answers.remove(answer)
    return (tuple(acts), tuple(answers), tuple(tuple(game[act][answer] for answer in answers) for act in acts))


class NeedGameTest(RefusalCase):
    def test_games_are_returned(self):
        for game in ALL:
            self.assertIs(need_game(game), game)

    def test_one_and_four_of_each(self):
        for acts, answers in product(range(1, 5), repeat=2):
            game = (((-1, 2),) * answers,) * acts
            self.assertIs(need_game(game), game)
        self.refused_place((), BadGame, need_game, (((1, 1),),) * 5)
        self.refused_place((0,), BadGame, need_game, (((1, 1),) * 5,))

    def test_wrong_games(self):
        for place, value in NO_GAMES:
            self.refused_place(place, BadGame, need_game, value)

    def test_places_are_found_in_order_by_a_plain_search(self):
        for marks in product((False, True), repeat=6):
            things = [(2, 4) if mark else (1, 2) for mark in marks]
            game = (tuple(things[:2]), tuple(things[2:4]), tuple(things[4:]))
            if any(marks):
                first = marks.index(True)
                self.refused_place((first // 2, first % 2), BadGame, need_game, game)
            else:
                self.assertIs(need_game(game), game)

    def test_pays_are_no_game(self):
        self.refused_place((0, 0), BadGame, need_game, (((0, 0), (1, 0)), ((1, 0), (0, 1))))
        self.refused_place((0, 0), BadGame, need_game, (((1, 0), (0, 1)),))


class EveryGameTest(RefusalCase):
    """Each parameter that is a GAME is checked as need_game does it, ahead of all others."""

    def test_wrong_games(self):
        calls = ((sums_by, ALONE), (sums_of, ALONE), (is_worth, ((1, 1), ALONE, ALONE)), (is_met, ("odds", ALONE)))
        for place, value in NO_GAMES:
            for call in (worth, met, turned_game, bare_game):
                self.refused_place(place, BadGame, call, value)
            for call, right in calls:
                self.refused_place(place, BadGame, call, value, right)
                self.refused_place(place, BadGame, call, value, None)


class SumsTest(RefusalCase):
    def test_the_answers_sums(self):
        for game in ALL:
            for dice in shares_for(len(game)):
                self.assertEqual(sums_by(game, dice), own_sums(zip(*game), dice))

    def test_the_acts_sums(self):
        for game in ALL:
            for odds in shares_for(len(game[0])):
                self.assertEqual(sums_of(game, odds), own_sums(game, odds))

    def test_by_hand(self):
        game = whole_game((1, 2, 3), (5, -6, 7))
        self.assertEqual(sums_by(game, ((1, 3), (2, 3))), ((11, 3), (-10, 3), (17, 3)))
        self.assertEqual(sums_of(game, ((1, 2), (1, 3), (1, 6))), ((5, 3), (5, 3)))
        self.assertEqual(sums_by(PENNIES, HALVES), ((0, 1), (0, 1)))
        self.assertEqual(sums_of(PENNIES, ((1, 4), (3, 4))), ((-1, 2), (1, 2)))
        self.assertEqual(sums_by(ONE_NUMBER, ALONE), ((-7, 3),))
        self.assertEqual(sums_by(ONE_ACT, ALONE), ((2, 1), (1, 1)))
        self.assertEqual(sums_of(ONE_ACT, HALVES), ((3, 2),))

    def test_great_fractions(self):
        self.assertEqual(sums_by(GREAT, ((1, 10 ** 40), (10 ** 40 - 1, 10 ** 40))),
                         own_sums(zip(*GREAT), ((1, 10 ** 40), (10 ** 40 - 1, 10 ** 40))))

    def test_dice_are_for_acts_and_odds_for_answers(self):
        game, thirds = whole_game((1, 2, 3), (4, 5, 6)), ((1, 3),) * 3
        self.assertEqual(sums_by(game, HALVES), ((5, 2), (7, 2), (9, 2)))
        self.assertEqual(sums_of(game, thirds), ((2, 1), (5, 1)))
        self.refused_value(BadDice, thirds, sums_by, game, thirds)
        self.refused_value(BadOdds, HALVES, sums_of, game, HALVES)

    def test_wrong_dice_and_odds(self):
        self.each_refused(BadDice, NO_HALVES, sums_by, [PENNIES, HALVES], 1)
        self.each_refused(BadOdds, NO_HALVES, sums_of, [PENNIES, HALVES], 1)

    def test_the_mean_of_both_sums_is_the_same(self):
        for game in ALL:
            for dice, odds in product(shares_for(len(game)), shares_for(len(game[0]))):
                by_dice = sum(part * total for part, total in zip(own(odds), own(sums_by(game, dice))))
                by_odds = sum(part * total for part, total in zip(own(dice), own(sums_of(game, odds))))
                self.assertEqual(by_dice, by_odds)


class WorthTest(RefusalCase):
    def test_held_from_both_hands(self):
        for game in ALL:
            told, dice, odds = worth(game)
            self.assertEqual(told, pair(Fraction(*told)))
            self.assertEqual((len(dice), len(odds)), (len(game), len(game[0])))
            for shares in (dice, odds):
                self.assertEqual(sum(own(shares)), 1)
                self.assertGreaterEqual(min(own(shares)), 0)
            self.assertLessEqual(max(own(own_sums(zip(*game), dice))), Fraction(*told))
            self.assertGreaterEqual(min(own(own_sums(game, odds))), Fraction(*told))
            self.assertIs(is_worth(game, (told, dice, odds)), True)

    def test_the_examples(self):
        self.assertEqual(worth(PENNIES), ((0, 1), HALVES, HALVES))
        self.assertEqual(worth(ONE_ACT), ((2, 1), ALONE, ((1, 1), (0, 1))))

    def test_by_hand(self):
        self.assertEqual(worth(STONES), ((0, 1), ((1, 3),) * 3, ((1, 3),) * 3))
        self.assertEqual(worth(DIAGONAL), ((1, 4), ((1, 4),) * 4, ((1, 4),) * 4))
        self.assertEqual(worth(ONE_NUMBER), ((-7, 3), ALONE, ALONE))
        self.assertEqual(worth(ONE_ANSWER), ((-3, 1), ((0, 1), (1, 1), (0, 1)), ALONE))
        self.assertEqual(worth(whole_game((3, 0), (0, 1))), ((3, 4), ((1, 4), (3, 4)), ((1, 4), (3, 4))))
        self.assertEqual(worth(NOUGHTS)[0], (0, 1))
        self.assertEqual(worth(ALIKE)[0], (2, 1))
        self.assertEqual(worth(whole_game((1, 2), (3, 4)))[0], (2, 1))
        self.assertEqual(worth(whole_game((0, 2, -1), (2, -3, 4)))[0], (4, 7))
        self.assertEqual(worth((((1, 2), (0, 1)), ((0, 1), (1, 3))))[0], (1, 5))
        self.assertEqual(worth(whole_game((1, -1, 5, 0), (-1, 1, 5, 0)))[0], (5, 1))

    def test_great_fractions(self):
        long = 10 ** 40
        game = (((long, 1), (0, 1)), ((0, 1), (1, long)))
        self.assertEqual(worth(game)[0], pair(1 / (Fraction(1, long) + long)))
        many = tuple(tuple((act * answer + long, long + 4 * act + answer) for answer in range(4)) for act in range(4))
        many = changed(many, lambda number: number)
        self.assertIs(is_worth(many, worth(many)), True)

    def test_from_the_least_to_the_greatest_number(self):
        for game in ALL:
            numbers = [Fraction(*number) for act in game for number in act]
            self.assertTrue(min(numbers) <= Fraction(*worth(game)[0]) <= max(numbers))

    def test_one_act_more_or_one_answer_more(self):
        for game in ALL:
            told = Fraction(*worth(game)[0])
            if len(game) > 1:
                self.assertGreaterEqual(Fraction(*worth(game[:-1])[0]), told)
            if len(game[0]) > 1:
                self.assertLessEqual(Fraction(*worth(tuple(act[:-1] for act in game))[0]), told)

    def test_added_and_multiplied(self):
        for game in ALL:
            told = Fraction(*worth(game)[0])
            for by in (Fraction(0), Fraction(3), Fraction(2, 7)):
                self.assertEqual(worth(changed(game, lambda number: number * by))[0], pair(told * by))
            for more in (Fraction(-2), Fraction(5, 3)):
                self.assertEqual(worth(changed(game, lambda number: number + more))[0], pair(told + more))

    def test_some_kernels_dice_have_it_for_their_greatest_sum(self):
        for game in ALL:
            found = []
            for kernel in kernels(len(game), len(game[0])):
                dice = kernel_dice(game, kernel)
                if dice is not None:
                    found.append(max(own(sums_by(game, dice))))
            self.assertEqual(pair(min(found)), worth(game)[0])


class IsWorthTest(RefusalCase):
    def test_held_from_both_hands_by_whoever_made_it(self):
        for game in ALL[::3]:
            told = worth(game)[0]
            near = [told] + [pair(Fraction(*told) + step) for step in (Fraction(1, 10 ** 9), Fraction(-1, 10 ** 9))]
            for number, dice, odds in product(near, shares_for(len(game)), shares_for(len(game[0]))):
                held = max(own(own_sums(zip(*game), dice))) <= Fraction(*number)
                reached = min(own(own_sums(game, odds))) >= Fraction(*number)
                self.assertIs(is_worth(game, (number, dice, odds)), held and reached)

    def test_others_than_those_told(self):
        for share in ((0, 1), (1, 3), (1, 2), (1, 1)):
            shares = (share, pair(1 - Fraction(*share)))
            self.assertIs(is_worth(NOUGHTS, ((0, 1), shares, shares)), True)
            self.assertIs(is_worth(PENNIES, ((0, 1), shares, HALVES)), share == (1, 2))
            self.assertIs(is_worth(PENNIES, ((0, 1), HALVES, shares)), share == (1, 2))

    def test_another_number_is_none(self):
        dice, odds = HALVES, HALVES
        for number in ((1, 1), (-1, 1), (1, 10 ** 40), (-1, 10 ** 40)):
            self.assertIs(is_worth(PENNIES, (number, dice, odds)), False)
        self.assertIs(is_worth(ONE_ACT, ((2, 1), ALONE, HALVES)), False)
        self.assertIs(is_worth(ONE_ACT, ((3, 2), ALONE, HALVES)), False)

    def test_values_of_any_kind(self):
        for value in OTHER_KINDS + (1, (0, 1), HALVES, ((0, 1), HALVES), ((0, 1), HALVES, HALVES, HALVES),
                                    [(0, 1), HALVES, HALVES], (Strange(), Strange(), Strange()), (None, None, None)):
            self.assertIs(is_worth(PENNIES, value), False)
        for value in NO_FRACTIONS:
            self.assertIs(is_worth(PENNIES, (value, HALVES, HALVES)), False)
        for value in NO_HALVES:
            self.assertIs(is_worth(PENNIES, ((0, 1), value, HALVES)), False)
            self.assertIs(is_worth(PENNIES, ((0, 1), HALVES, value)), False)

    def test_dice_are_for_acts_and_odds_for_answers(self):
        game = whole_game((2, 1, 2), (1, 2, 2))
        dice, odds = HALVES, ((0, 1), (0, 1), (1, 1))
        self.assertIs(is_worth(game, ((2, 1), dice, odds)), True)
        self.assertIs(is_worth(game, ((2, 1), odds, dice)), False)


class MetTest(RefusalCase):
    def test_which_of_both(self):
        told = {"dice": 0, "odds": 0}
        for game in ALL:
            found = met(game)
            word, shares = found
            told[word] += 1
            self.assertIs(type(found), tuple)
            self.assertEqual(sum(own(shares)), 1)
            self.assertGreaterEqual(min(own(shares)), 0)
            if word == "dice":
                self.assertEqual(len(shares), len(game))
                self.assertLessEqual(max(own(own_sums(zip(*game), shares))), 0)
            else:
                self.assertEqual(len(shares), len(game[0]))
                self.assertGreater(min(own(own_sums(game, shares))), 0)
            self.assertIs(word == "dice", Fraction(*worth(game)[0]) <= 0)
            self.assertIs(word == "dice", first_kernel(game) is not None)
            self.assertIs(is_met(game, found), True)
        self.assertGreater(min(told.values()), 30)

    def test_by_hand(self):
        self.assertEqual(met(PENNIES), ("dice", HALVES))
        self.assertEqual(met(ONE_ACT)[0], "odds")
        self.assertEqual(met(NOUGHTS)[0], "dice")
        self.assertEqual(met(STONES), ("dice", ((1, 3),) * 3))
        self.assertEqual(met(DIAGONAL)[0], "odds")
        self.assertEqual(met(ONE_NUMBER), ("dice", ALONE))
        self.assertEqual(met(ONE_ANSWER), ("dice", ((0, 1), (1, 1), (0, 1))))

    def test_worth_just_nought_and_a_little_more(self):
        for step, word in ((0, "dice"), (Fraction(-1, 10 ** 40), "dice"), (Fraction(1, 10 ** 40), "odds")):
            for game in (PENNIES, STONES, NOUGHTS, (((0, 1),),)):
                self.assertEqual(met(changed(game, lambda number: number + step))[0], word)


class IsMetTest(RefusalCase):
    def test_whoever_made_it(self):
        for game in ALL:
            for dice in shares_for(len(game)):
                held = max(own(own_sums(zip(*game), dice))) <= 0
                self.assertIs(is_met(game, ("dice", dice)), held)
            for odds in shares_for(len(game[0])):
                reached = min(own(own_sums(game, odds))) > 0
                self.assertIs(is_met(game, ("odds", odds)), reached)

    def test_never_both(self):
        for game in LITTLE_GAMES:
            held = [is_met(game, ("dice", shares)) for shares in shares_for(2)]
            reached = [is_met(game, ("odds", shares)) for shares in shares_for(2)]
            self.assertFalse(any(held) and any(reached))

    def test_nought_is_no_more_than_nought(self):
        self.assertIs(is_met(PENNIES, ("dice", HALVES)), True)
        self.assertIs(is_met(PENNIES, ("odds", HALVES)), False)
        self.assertIs(is_met(NOUGHTS, ("dice", ((1, 3), (2, 3)))), True)
        self.assertIs(is_met(NOUGHTS, ("odds", ((1, 3), (2, 3)))), False)
        little = (((1, 10 ** 40),),)
        self.assertIs(is_met(little, ("dice", ALONE)), False)
        self.assertIs(is_met(little, ("odds", ALONE)), True)

    def test_each_sum_counts(self):
        game = whole_game((1, 0, 1), (1, 1, 1))
        self.assertIs(is_met(game, ("odds", ((0, 1), (1, 1), (0, 1)))), False)
        self.assertIs(is_met(game, ("odds", ((1, 3),) * 3)), True)
        self.assertIs(is_met(turned_game(game), ("dice", ((1, 3),) * 3)), True)
        self.assertIs(is_met(whole_game((-1, 0, 1)), ("dice", ALONE)), False)
        self.assertIs(is_met(whole_game((-1, 0, 0)), ("dice", ALONE)), True)

    def test_values_of_any_kind(self):
        wrong = OTHER_KINDS + (
            1, "dice", ("dice",), ("dice", HALVES, HALVES), ["dice", HALVES], (HALVES, "dice"), ("Dice", HALVES),
            ("odds", None), (None, HALVES), (b"dice", HALVES), (0, HALVES), (True, HALVES), ("", HALVES),
            (Strange(), HALVES), (("dice",), HALVES), ("dice ", HALVES), (Strange(), Strange()),
        )
        for value in wrong:
            self.assertIs(is_met(PENNIES, value), False)
            self.assertIs(is_met(NOUGHTS, value), False)
        above = changed(NOUGHTS, lambda number: number + 1)
        for value in NO_HALVES:
            self.assertIs(is_met(NOUGHTS, ("dice", value)), False)
            self.assertIs(is_met(above, ("odds", value)), False)
            self.assertIs(is_met(above, ("dice", value)), False)

    def test_dice_are_for_acts_and_odds_for_answers(self):
        thirds = ((1, 3),) * 3
        low, high = whole_game((-1, -1, -1), (-1, -1, -1)), whole_game((1, 1, 1), (1, 1, 1))
        self.assertIs(is_met(low, ("dice", HALVES)), True)
        self.assertIs(is_met(low, ("dice", thirds)), False)
        self.assertIs(is_met(high, ("odds", thirds)), True)
        self.assertIs(is_met(high, ("odds", HALVES)), False)


class TurnedGameTest(RefusalCase):
    def test_exchanged_with_signs_turned_about(self):
        for game in ALL:
            found = turned_game(game)
            self.assertEqual((len(found), len(found[0])), (len(game[0]), len(game)))
            for act, answer in product(range(len(game)), range(len(game[0]))):
                self.assertEqual(Fraction(*found[answer][act]), -Fraction(*game[act][answer]))
            self.assertIs(need_game(found), found)

    def test_by_hand(self):
        self.assertEqual(turned_game(whole_game((1, -2, 0))), whole_game((-1,), (2,), (0,)))
        self.assertEqual(turned_game((((1, 2), (-3, 4)), ((0, 1), (5, 1)))), (((-1, 2), (0, 1)), ((3, 4), (-5, 1))))
        self.assertEqual(turned_game(ONE_NUMBER), (((7, 3),),))

    def test_turned_twice_it_is_itself(self):
        for game in ALL:
            self.assertEqual(turned_game(turned_game(game)), game)

    def test_its_worth(self):
        for game in ALL:
            (above, below), dice, odds = worth(game)
            self.assertIs(is_worth(turned_game(game), ((-above, below), odds, dice)), True)
            self.assertEqual(worth(turned_game(game))[0], (-above, below))


class BareGameTest(RefusalCase):
    def test_act_by_act_and_answer_by_answer(self):
        lost = set()
        for game in ALL:
            found = bare_game(game)
            self.assertEqual(found, own_bare(game))
            lost.add((len(game) > len(found[0]), len(game[0]) > len(found[1])))
            self.assertIs(need_game(found[2]), found[2])
        self.assertEqual(lost, set(product((False, True), repeat=2)))

    def test_of_what_is_alike_the_last_one_stays(self):
        self.assertEqual(bare_game(ALIKE), ((2,), (1,), whole_game((2,))))
        self.assertEqual(bare_game(NOUGHTS), ((1,), (1,), whole_game((0,))))
        zeros = whole_game(*[(0,) * 4] * 4)
        self.assertEqual(bare_game(zeros), ((3,), (3,), whole_game((0,))))
        game = whole_game((1, -1, 1), (-1, 1, -1), (1, -1, 1))
        self.assertEqual(bare_game(game), ((1, 2), (1, 2), whole_game((1, -1), (-1, 1))))

    def test_by_hand(self):
        self.assertEqual(bare_game(PENNIES), ((0, 1), (0, 1), PENNIES))
        self.assertEqual(bare_game(STONES), ((0, 1, 2), (0, 1, 2), STONES))
        self.assertEqual(bare_game(DIAGONAL), ((0, 1, 2, 3), (0, 1, 2, 3), DIAGONAL))
        self.assertEqual(bare_game(ONE_ACT), ((0,), (0,), whole_game((2,))))
        self.assertEqual(bare_game(ONE_ANSWER), ((1,), (0,), whole_game((-3,))))
        self.assertEqual(bare_game(ONE_NUMBER), ((0,), (0,), ONE_NUMBER))
        # The first act is beaten by the last one, the last one by none.
        self.assertEqual(bare_game(whole_game((1, 3), (2, 0), (1, 2))), ((1, 2), (0, 1), whole_game((2, 0), (1, 2))))
        # A later act goes by an earlier one.
        self.assertEqual(bare_game(whole_game((0, 1), (1, 0), (1, 1))), ((0, 1), (0, 1), whole_game((0, 1), (1, 0))))

    def test_answers_go_by_the_acts_left_alone(self):
        # The answer 0 is worth having against the act 1 alone, which goes first.
        game = whole_game((0, 1), (9, 1))
        self.assertEqual(bare_game(game), ((0,), (1,), whole_game((1,))))

    def test_acts_go_by_all_answers(self):
        # Without the answer 1, which goes, the act 0 would go, too.
        game = whole_game((1, 0, 3), (0, 1, 2))
        self.assertEqual(bare_game(game), ((0, 1), (2,), whole_game((3,), (2,))))
        # Made bare again it does.
        self.assertEqual(bare_game(bare_game(game)[2]), ((1,), (0,), whole_game((2,))))

    def test_fractions_are_compared_as_numbers(self):
        # As Python compares (1, 2) is ahead of (1, 3).
        self.assertEqual(bare_game((((1, 2),), ((1, 3),))), ((1,), (0,), (((1, 3),),)))
        self.assertEqual(bare_game((((1, 2), (1, 3)),)), ((0,), (0,), (((1, 2),),)))

    def test_the_same_worth(self):
        for game in ALL:
            self.assertEqual(worth(bare_game(game)[2])[0], worth(game)[0])


if __name__ == "__main__":
    unittest.main()
