"""Facts that speak of more than one part: the same told by all functions, and told otherwise."""

import re
import unittest
from fractions import Fraction
from itertools import permutations, product
from pathlib import Path

from tests.common import (
    CORNER, EXAMPLE_PAYS, NAMED_PAYS, NAMED_SHAPES, ONE_ACT_PAYS, ONE_ANSWER_PAYS, SHAPES, RefusalCase, crossings,
    let_by, made_pays, own, own_mean, pair, shares_for,
)
from withinshapes.against import dice_against, is_against
from withinshapes.chains import is_chain
from withinshapes.ends import greatest_along, idle_lines, same_points, squared_from, widened
from withinshapes.errors import BadShape, NoDice, NoRow, TooGreat
from withinshapes.heights import height
from withinshapes.keeping import kept_answer, kept_row, mean_by_odds, paper_margin
from withinshapes.leading import is_border_of, is_lead, is_led, lead, least_part, led_lines, led_turns
from withinshapes.made import (
    both_shapes, either_acts, either_answers, mapped, mapped_shape, moved, moved_shape, some_acts, some_answers,
    some_lines,
)
from withinshapes.points import greatest_gap
from withinshapes.several import all_led, by_turns, is_all_led, regret_shape, regrets, while_shape
from withinshapes.sessions import begun, played, session_step
from withinshapes.shapes import lets
from withinshapes.steering import exact_dice, guarantee, is_pulled, is_steering, steered, steered_late
from withinshapes.texts import (
    need_chain, need_paper, paper_text, pays_text, read_paper, read_pays, read_shape, shape_text,
)
from withinshapes.turns import turns
from withinshapes.widening import is_least_widening, least_push, least_widening

FOLDER = Path(__file__).resolve().parent.parent
ALL_PAYS = NAMED_PAYS + tuple(made_pays(32, 121)) + tuple(made_pays(16, 122, 7))
CASES = [(pays, shape) for at, pays in enumerate(ALL_PAYS) for shape in SHAPES[at % 19::19]]
LEADS = [(pays, shape) + lead(pays, shape) for pays, shape in CASES]
LED = [(pays, shape) for pays, shape, word, _ in LEADS if word == "led"]
OUT = [(pays, shape, paper) for pays, shape, word, paper in LEADS if word == "out"]
WAYS = tuple(way for way in product((-3, -1, 0, 2), repeat=2) if way != (0, 0))


def is_beyond(wall, point):
    """Whether a wall doesn't let a POINT."""
    x, y = own(point)
    return wall[0] * x + wall[1] * y > wall[2]


def answered_against(pays, shape, rounds):
    """Answers, each the one by which the mean is farthest from the shape, if one steers."""
    answers = ()
    for _ in range(rounds):
        ends = [Fraction(*squared_from(shape, steered(pays, shape, answers + (answer,))[1][-1]))
                for answer in range(len(pays[0]))]
        answers += (ends.index(max(ends)),)
    return answers


class AlikeTest(RefusalCase):
    def test_there_are_many_of_both(self):
        self.assertGreater(len(LED), 100)
        self.assertGreater(len(OUT), 150)

    def test_led_or_kept_out_alike_by_all_functions(self):
        for pays, shape, word, paper in LEADS:
            led = word == "led"
            self.assertIs(is_led(pays, shape), led)
            self.assertIs(led_turns(pays, shape) == turns(shape), led)
            self.assertIs(least_part(pays, shape) is None, led)
            self.assertEqual(all_led((pays,), shape)[0], word)
            self.assertIs(session_step(begun(pays, shape), ("ask",))[1], led)
            self.assertIs(is_least_widening(pays, shape, (0, paper, None)), led)
            self.assertIs(is_all_led((pays,), shape, ("led", (("led", paper),))), led)
            self.assertIs(is_all_led((pays,), shape, ("out", 0, paper)), not led)
            if led:
                self.assertEqual(led_lines(pays, shape), tuple(range(len(shape))))

    def test_papers_that_their_judges_take(self):
        for pays, shape, word, paper in LEADS:
            self.assertIs(is_lead(pays, shape, (word, paper)), True)
            self.assertEqual(need_paper((word, paper)), (word, paper))
            if word == "led":
                for turn, chain in zip(turns(shape), paper):
                    self.assertIs(is_chain(pays, shape, turn, need_chain(chain)), True)
            else:
                self.assertIs(is_border_of(shape, paper[0]), True)
                self.assertGreater(paper_margin(pays, paper)[0], 0)
                self.assertIs(is_against(pays, shape, paper[1], ("wall", paper[0])), True)

    def test_led_by_texts_of_all(self):
        for pays, shape, word, paper in LEADS[::3]:
            case = (read_pays(pays_text(pays)), read_shape(shape_text(shape)))
            self.assertEqual(case, (pays, shape))
            self.assertIs(is_lead(*case, read_paper(paper_text((word, paper)))), True)

    def test_how_far_lines_must_give_way(self):
        for pays, shape, word, _ in LEADS[::2]:
            led = word == "led"
            try:
                more, chains, out = least_widening(pays, shape)
            except TooGreat:
                self.assertIs(led, False)
                continue
            self.assertIs(more == 0, led)
            wider = tuple((a, b, c + more) for a, b, c in shape)
            self.assertIs(same_points(wider, widened(shape, (more, 1))), True)
            self.assertIs(is_lead(pays, wider, ("led", chains)), True)
            if more:
                self.assertIs(is_lead(pays, tuple((a, b, c - 1) for a, b, c in wider), ("out", out)), True)
            try:
                end = least_push(pays, shape, 0)[0]
            except NoRow:
                self.assertIs(led, False)
                continue
            self.assertIs(end <= shape[0][2], led)

    def test_heights_and_ends(self):
        # Each half plane that has a led shape is led.
        many = 0
        for pays, shape in LED:
            for a, b in WAYS:
                end = greatest_along(shape, a, b)
                if end is not None:
                    many += 1
                    self.assertLessEqual(Fraction(*height(pays, a, b)[0]), Fraction(*end))
        self.assertGreater(many, 500)
        for pays, _, ((a, b, c), _) in OUT:
            if max(abs(a), abs(b)) <= 1000:
                self.assertGreater(Fraction(*height(pays, a, b)[0]), c)

    def test_dice_for_all_odds(self):
        for pays, shape in LED[::2]:
            for odds in shares_for(len(pays[0])):
                word, dice = dice_against(pays, shape, odds)
                self.assertEqual(word, "dice")
                mean = mean_by_odds(pays, odds, (dice,))
                self.assertIs(lets(shape, mean), True)
        for pays, shape, (_, odds) in OUT:
            word, wall = dice_against(pays, shape, odds)
            self.assertEqual(word, "wall")
            self.assertIs(is_lead(pays, shape, ("out", (wall, odds))), True)

    def test_dice_for_all_means(self):
        for pays, shape in LED[::2]:
            for mean in (((0, 1), (0, 1)), ((20, 1), (-7, 3)), ((-9, 2), (50, 1)), ((1, 3), (100, 1))):
                self.assertIs(is_pulled(pays, shape, mean, exact_dice(pays, shape, mean)), True)


class OtherwiseTest(RefusalCase):
    """The same told otherwise."""

    def test_mapped_and_moved(self):
        many = 0
        for at, (pays, shape, word, _) in enumerate(LEADS):
            matrix = (((0, 1), (1, 0)), ((-1, 0), (1, 2)), ((2, 1), (1, 1)), ((0, -3), (2, 0)))[at % 4]
            try:
                case = (mapped(moved(pays, (2, -1)), matrix), mapped_shape(moved_shape(shape, (2, -1)), matrix))
            except TooGreat:
                continue
            many += 1
            self.assertIs(is_led(*case), word == "led")
        self.assertGreater(many, 150)

    def test_acts_and_lines_in_another_order(self):
        for at, (pays, shape, word, _) in enumerate(LEADS[::2]):
            orders = list(permutations(range(len(pays))))
            acts = tuple(pays[act] for act in orders[at % len(orders)])
            answers = list(permutations(range(len(pays[0]))))
            acts = tuple(tuple(act[answer] for answer in answers[at % len(answers)]) for act in acts)
            self.assertIs(is_led(acts, shape[at % len(shape):] + shape[:at % len(shape)]), word == "led")
            self.assertIs(is_led(acts, shape[::-1]), word == "led")

    def test_an_act_an_answer_a_line_twice(self):
        for pays, shape, word, _ in LEADS[::2]:
            led = word == "led"
            if len(pays) < 4:
                self.assertIs(is_led(either_acts(pays, some_acts(pays, (0,))), shape), led)
            if len(pays[0]) < 4:
                self.assertIs(is_led(either_answers(some_answers(pays, (len(pays[0]) - 1,)), pays), shape), led)
            if len(shape) < 8:
                self.assertIs(is_led(pays, shape + shape[:1]), led)
                self.assertIs(is_led(pays, shape[-1:] + shape), led)
            self.assertIs(is_led(pays, both_shapes(shape, shape)), led)

    def test_without_idle_lines(self):
        left = 0
        for pays, shape, word, _ in LEADS:
            idle = idle_lines(shape)
            left += bool(idle)
            lot = tuple(number for number in range(len(shape)) if number not in idle)
            bare = some_lines(shape, lot)
            self.assertEqual(idle_lines(bare), ())
            self.assertIs(same_points(bare, shape), True)
            self.assertIs(is_led(pays, bare), word == "led")
        self.assertGreater(left, 50)

    def test_lines_times_a_number(self):
        for pays, shape, word, _ in LEADS[::3]:
            if max(abs(number) for line in shape for number in line) <= 300:
                twice = tuple(tuple(number * (2 + at % 2) for number in line) for at, line in enumerate(shape))
                self.assertIs(is_led(pays, twice), word == "led")

    def test_more_acts_fewer_answers_fewer_lines(self):
        for at, (pays, shape) in enumerate(LED):
            others = [other for other in ALL_PAYS if len(other[0]) == len(pays[0]) and len(other) + len(pays) <= 4]
            if others:
                self.assertIs(is_led(either_acts(pays, others[at % len(others)]), shape), True)
            for answer in range(len(pays[0])):
                self.assertIs(is_led(some_answers(pays, (answer,)), shape), True)
            for number in range(len(shape)):
                self.assertIs(is_led(pays, some_lines(shape, (number,))), True)

    def test_greater_shapes(self):
        for pays, shape in LED[::2]:
            for other in NAMED_SHAPES[::3]:
                try:
                    both = both_shapes(shape, other)
                except (TooGreat, BadShape):
                    continue
                if is_led(pays, both):
                    self.assertIs(is_led(pays, other), True)


class RoundsTest(RefusalCase):
    def test_within_the_guarantee_for_every_row_of_a_few_answers(self):
        for pays, shape in LED[::3]:
            answers = len(pays[0])
            for row in list(product(range(answers), repeat=4))[::1 if answers < 3 else 13]:
                dices, means = steered(pays, shape, row)
                self.assertIs(is_steering(pays, shape, row, dices), True)
                for number, mean in enumerate(means):
                    most = Fraction(*guarantee(pays, number + 1, 0))
                    self.assertLessEqual(Fraction(*squared_from(shape, mean)), most)
                deeds = tuple(("answer", answer) for answer in row) + (("mean",),)
                self.assertEqual(played(pays, shape, deeds)[1][-1], means[-1])
                self.assertEqual(by_turns((pays,), shape, tuple((0, answer) for answer in row)), (dices, means))

    def test_against_answers_that_look_at_the_dice(self):
        for pays, shape in LED[::11]:
            answers = answered_against(pays, shape, 12)
            for number, mean in enumerate(steered(pays, shape, answers)[1]):
                self.assertLessEqual(Fraction(*squared_from(shape, mean)), Fraction(5 * greatest_gap(pays), number + 1))
            for late in (1, 3):
                for number, mean in enumerate(steered_late(pays, shape, answers, late)[1]):
                    most = Fraction(*guarantee(pays, number + 1, late))
                    self.assertLessEqual(Fraction(*squared_from(shape, mean)), most)

    def test_the_same_mapped_is_within_its_own_guarantee(self):
        for pays, shape in LED[::5]:
            matrix = ((1, 2), (-1, 1))
            try:
                case = (mapped(pays, matrix), mapped_shape(shape, matrix))
            except TooGreat:
                continue
            row = tuple(at % len(pays[0]) for at in range(7))
            for number, mean in enumerate(steered(*case, row)[1]):
                self.assertLessEqual(Fraction(*squared_from(case[1], mean)), Fraction(*guarantee(case[0], number + 1, 0)))

    def test_told_answers_keep_out(self):
        for at, (pays, shape, paper) in enumerate(OUT):
            dices = tuple(shares_for(len(pays)) * 2)[at % 2:]
            answers, means = kept_row(pays, paper, dices)
            for mean in means:
                self.assertTrue(is_beyond(paper[0], mean))
                self.assertFalse(let_by(shape, *own(mean)))
            self.assertTrue(is_beyond(paper[0], mean_by_odds(pays, paper[1], dices)))
            self.assertEqual(answers[0], kept_answer(pays, paper, dices[0]))

    def test_told_answers_keep_a_steering_hand_out(self):
        for pays, shape, paper in OUT[::2]:
            answers = ()
            for _ in range(5):
                try:
                    dice = steered(pays, shape, answers + (0,))[0][-1]
                except NoDice:
                    break
                answers += (kept_answer(pays, paper, dice),)
                mean = steered(pays, shape, answers)[1][-1]
                self.assertTrue(is_beyond(paper[0], mean))
                self.assertEqual(played(pays, shape, tuple(("answer", answer) for answer in answers) + (("mean",),))[1][-1],
                                 mean)

    def test_widened_just_so_far_as_told_it_is_led(self):
        for pays, shape, _ in OUT[::4]:
            try:
                more = least_widening(pays, shape)[0]
            except TooGreat:
                continue
            wider = tuple((a, b, c + more) for a, b, c in shape)
            row = tuple(at % len(pays[0]) for at in range(6))
            for number, mean in enumerate(steered(pays, wider, row)[1]):
                self.assertLessEqual(Fraction(*squared_from(wider, mean)), Fraction(*guarantee(pays, number + 1, 0)))
            less = tuple((a, b, c - 1) for a, b, c in wider)
            paper = lead(pays, less)[1]
            for mean in kept_row(pays, paper, tuple(shares_for(len(pays))))[1]:
                self.assertFalse(let_by(less, *own(mean)))


class ExamplesTest(RefusalCase):
    def test_the_first_example(self):
        self.assertIs(is_led(EXAMPLE_PAYS, CORNER), True)
        for answer in (0, 1):
            self.assertEqual(own_mean([act[answer] for act in EXAMPLE_PAYS], ((1, 2), (1, 2))), (Fraction(1, 2),) * 2)
        self.assertIs(is_led(EXAMPLE_PAYS, ((1, 0, 0),)), False)
        self.assertIs(is_led(ONE_ACT_PAYS, CORNER), False)

    def test_regrets_in_a_session(self):
        pays = regrets(((1, 0, 3), (0, 2, -1)))
        state, answers = played(pays, regret_shape(), (("ask",), ("answer", 2), ("answer", 1), ("mean",)))
        self.assertIs(answers[0], True)
        self.assertEqual(answers[3], steered(pays, regret_shape(), (2, 1))[1][-1])
        self.assertEqual(state[2], (2, 1))

    def test_at_least_while_at_most(self):
        # X at least 1/2 of the rounds is one side, Y at most 1/2 the other one.
        pays = tuple(tuple((10 * x, 10 * y) for x, y in act) for act in EXAMPLE_PAYS)
        self.assertIs(is_led(pays, while_shape(5, 5)), True)
        self.assertIs(is_led(pays, while_shape(6, 5)), False)
        self.assertIs(is_led(pays, while_shape(5, 4)), False)
        self.assertEqual(least_widening(pays, while_shape(6, 5))[0], 1)

    def test_some_points_of_shapes_put_together(self):
        both = both_shapes(CORNER, ((-1, 0, 0),))
        for x, y in crossings(both):
            self.assertIs(lets(both, (pair(x), pair(y))), let_by(both, x, y))
        self.assertIs(is_led(ONE_ANSWER_PAYS, both), True)

    def test_what_the_readme_shows_runs(self):
        told = {}
        blocks = re.findall("```python\n(.*?)```", (FOLDER / "README.md").read_text(), re.DOTALL)
        self.assertGreater(len(blocks), 5)
        for block in blocks:
            exec(compile(block, "README.md", "exec"), told)


if __name__ == "__main__":
    unittest.main()
