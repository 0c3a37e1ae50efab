"""Promises 48 and 49: states, deeds, and what they tell."""

import unittest
from fractions import Fraction
from itertools import product
from random import Random

from tests.common import (
    APART, CORNER, EXAMPLE_PAYS, NAMED_PAYS, NO_LINES, NO_PAYS, NO_SHAPES, OCTAGON, ONE_ACT_PAYS, ONE_ANSWER_PAYS,
    OTHER_KINDS, SHAPES, SINGLE_PAY, SINGLE_POINT, UNEVEN_PAYS, RefusalCase, Strange, has_point, made_pays,
)
from withinshapes.ends import squared_from
from withinshapes.errors import BadDeed, BadParameter, BadPays, BadShape, NoDice, NoRow, ShapeError, TooGreat
from withinshapes.leading import is_led
from withinshapes.sessions import begun, need_state, played, session_step
from withinshapes.steering import guarantee, steered

LEFT = ((1, 0, 0),)
AXES = ((1, 0, 0), (0, 1, 0))
ALL_PAYS = NAMED_PAYS + tuple(made_pays(16, 111)) + tuple(made_pays(8, 112, 20))
CASES = [(pays, shape) for at, pays in enumerate(ALL_PAYS) for shape in SHAPES[at % 23::23]]
START = (EXAMPLE_PAYS, CORNER, (), ())
MOMENT = (CORNER, ())

# What is no ANSWERS of the first example.
NO_ANSWERS = tuple(value for value in OTHER_KINDS if type(value) is not tuple or value != () and value != (1,)) + (
    0, 1, (2,), (-1,), (0, 2), (True,), (0, False), (0.0,), ("0",), (None,), ((0,),), [0], (0,) * 61, (None,) * 61,
    (Strange(),), (0, Strange()), "01", range(2), {0: 0}, (0, 10 ** 40),
)

NO_MOMENTS = OTHER_KINDS + (
    1, (CORNER,), (CORNER, (), ()), [CORNER, ()], ((), CORNER), (CORNER, None), (None, ()), (APART, ()), ((), ()),
    (Strange(), ()), (CORNER, Strange()), (CORNER[0], ()), ((CORNER, ()),),
) + tuple((value, ()) for _, value in NO_SHAPES[::5]) + tuple((CORNER, value) for value in NO_ANSWERS)

# What is no state, each behind the place that is told of it.
NO_STATES = tuple(
    [((), value) for value in OTHER_KINDS + (1, START[:3], START + (None,), list(START), (None,) * 5, {0: START})]
    + [((2,), (EXAMPLE_PAYS, CORNER, value, ())) for value in NO_ANSWERS]
    + [((2,), (EXAMPLE_PAYS, CORNER, value, None)) for value in NO_ANSWERS]
    + [((3,), (EXAMPLE_PAYS, CORNER, (0, 1), value)) for value in OTHER_KINDS if type(value) is not tuple]
    + [((3,), (EXAMPLE_PAYS, CORNER, (), value)) for value in ([MOMENT], (MOMENT,) * 201, (None,) * 201, {MOMENT: 0})]
    + [((3, 0), (EXAMPLE_PAYS, CORNER, (), (value,))) for value in NO_MOMENTS]
    + [((3, 2), (EXAMPLE_PAYS, CORNER, (), (MOMENT, (LEFT, (1, 1)), value, None))) for value in NO_MOMENTS]
    + [((3, 199), (EXAMPLE_PAYS, CORNER, (), (MOMENT,) * 199 + (value,))) for value in NO_MOMENTS[::5]]
)

NO_DEEDS = OTHER_KINDS + (
    0, "ask", ["ask"], ("Ask",), ("ask", None), ("mean", 0), ("undo", ()), ("answer",), ("answer", 0, 0), ("line",),
    ("line", (1, 0, 0), None), ("line", 1, 0, 0), ("unline",), ("unline", 0, 1), ("",), ("led",), ("answers", 0),
    (b"ask",), (None,), (0, "answer"), (("ask",),), ("answer", 0, None, None), {"ask": 0}, (Strange(),),
    (Strange(), 0), ("ask", Strange()), ("begun",), ("undo", "undo"), (), ("lines", (1, 0, 0)),
)


def own_step(state, deed):
    """(STATE, ANSWER) behind a deed that is not refused."""
    pays, shape, answers, past = state
    then = past + ((shape, answers),)
    if deed[0] == "answer":
        return (pays, shape, answers + deed[1:], then), None
    if deed[0] == "line":
        return (pays, shape + deed[1:], answers, then), None
    if deed[0] == "unline":
        return (pays, tuple(line for at, line in enumerate(shape) if at != deed[1]), answers, then), None
    if deed[0] == "undo":
        return (pays,) + past[-1] + (past[:-1],), None
    if deed[0] == "ask":
        return state, is_led(pays, shape)
    try:
        return state, steered(pays, shape, answers)[1][-1]
    except NoDice:
        return state, "none"


def is_let(state, deed):
    """Whether a deed is not refused."""
    pays, shape, answers, past = state
    if deed[0] == "answer":
        return 0 <= deed[1] < len(pays[0]) and len(answers) < 60 and len(past) < 200
    if deed[0] == "line":
        return len(shape) < 8 and has_point(shape + deed[1:]) and len(past) < 200
    if deed[0] == "unline":
        return 0 <= deed[1] < len(shape) and len(shape) > 1 and len(past) < 200
    if deed[0] == "undo":
        return len(past) > 0
    return deed[0] == "ask" or len(answers) > 0


def made_deeds(many, seed):
    """So many deeds, some of them refused."""
    drawn = Random(seed)
    lines = [(1, 0, 2), (0, 1, 3), (1, 1, 0), (-1, 2, 4), (0, -1, 5), (-1, 0, 1), (2, 1, -3), (3, -2, 7)]
    found = []
    for _ in range(many):
        found.append(drawn.choice((
            ("answer", drawn.randrange(3)), ("answer", drawn.randrange(2)), ("answer", 0), ("line", drawn.choice(lines)),
            ("unline", drawn.randrange(4)), ("ask",), ("mean",), ("undo",),
        )))
    return tuple(found)


def let_deeds(state, deeds):
    """The deeds that are not refused, one behind the other."""
    found = []
    for deed in deeds:
        if is_let(state, deed):
            found.append(deed)
            state, _ = own_step(state, deed)
    return tuple(found)


class BegunTest(RefusalCase):
    def test_nothing_was_done(self):
        for pays, shape in CASES:
            self.assertEqual(begun(pays, shape), (pays, shape, (), ()))
            self.assertEqual(need_state(begun(pays, shape)), (pays, shape, (), ()))

    def test_wrong_parameters(self):
        for place, value in NO_PAYS:
            self.refused_place(place, BadPays, begun, value, CORNER)
        for place, value in NO_SHAPES:
            self.refused_place(place, BadShape, begun, EXAMPLE_PAYS, value)
        self.refused_place((), BadPays, begun, None, None)


class NeedStateTest(RefusalCase):
    def test_states_are_returned(self):
        for state in (START, (EXAMPLE_PAYS, AXES, (0, 1, 1), ()), (EXAMPLE_PAYS, OCTAGON, (1,) * 60, (MOMENT,) * 200),
                      (UNEVEN_PAYS, LEFT, (2, 1, 0), ((SINGLE_POINT, (2,) * 60), (LEFT, ()))),
                      (SINGLE_PAY, LEFT, (0,), ((OCTAGON, ()),))):
            self.assertIs(need_state(state), state)

    def test_whether_deeds_lead_from_one_to_the_next_is_not_asked(self):
        state = (EXAMPLE_PAYS, CORNER, (), ((OCTAGON, (0, 1) * 30), (LEFT, (1,)), MOMENT, MOMENT))
        self.assertIs(need_state(state), state)
        self.assertEqual(session_step(state, ("undo",)), ((EXAMPLE_PAYS, CORNER, (), state[3][:3]), None))

    def test_what_is_no_state(self):
        for place, value in NO_STATES:
            self.refused_place(place, BadDeed, need_state, value)
        for deed in (("ask",), ("answer", 0), None):
            for place, value in NO_STATES[::3]:
                self.refused_place(place, BadDeed, session_step, value, deed)

    def test_pays_and_then_shapes(self):
        for place, value in NO_PAYS:
            self.refused_place(place, BadPays, need_state, (value, CORNER, (), ()))
            self.refused_place(place, BadPays, session_step, (value, None, None, None), None)
        for place, value in NO_SHAPES:
            self.refused_place(place, BadShape, need_state, (EXAMPLE_PAYS, value, (), ()))
            self.refused_place(place, BadShape, session_step, (EXAMPLE_PAYS, value, None, None), None)

    def test_answers_of_these_pays(self):
        for pays, answers in ((ONE_ANSWER_PAYS, (1,)), (EXAMPLE_PAYS, (2,)), (UNEVEN_PAYS, (0, 3))):
            self.refused_place((2,), BadDeed, need_state, (pays, CORNER, answers, ()))
            self.refused_place((3, 1), BadDeed, need_state, (pays, CORNER, (), (MOMENT, (CORNER, answers))))


class StepTest(RefusalCase):
    def test_deed_by_deed(self):
        asked = set()
        for at, (pays, shape) in enumerate(CASES):
            state = begun(pays, shape)
            for deed in made_deeds(24, at):
                if not is_let(state, deed):
                    with self.assertRaises(ShapeError):
                        session_step(state, deed)
                    continue
                told = own_step(state, deed)
                found = session_step(state, deed)
                self.assertEqual(found, told)
                asked.add((deed[0], type(found[1])))
                state = need_state(found[0])
        self.assertEqual(asked, {(word, type(None)) for word in ("answer", "line", "unline", "undo")} | {
            ("ask", bool), ("mean", tuple), ("mean", str)})

    def test_the_example(self):
        state, answers = played(EXAMPLE_PAYS, CORNER, (("answer", 0), ("answer", 0), ("mean",)))
        self.assertEqual(answers, (None, None, ((1, 4), (3, 4))))
        self.assertEqual(state[:3], (EXAMPLE_PAYS, CORNER, (0, 0)))
        deeds = (("answer", 0), ("answer", 0), ("mean",), ("line", (1, 0, 0)), ("ask",))
        state, answers = played(EXAMPLE_PAYS, CORNER, deeds)
        self.assertIs(answers[-1], False)
        self.assertEqual(answers[2:4], (((1, 4), (3, 4)), None))
        self.assertEqual(state, (EXAMPLE_PAYS, CORNER + LEFT, (0, 0), ((CORNER, ()), (CORNER, (0,)), (CORNER, (0, 0)))))

    def test_asking_changes_nothing(self):
        for pays, shape in CASES:
            state = (pays, shape, (0,) * 3, ((shape, ()),))
            for deed in (("ask",), ("mean",)):
                self.assertEqual(session_step(state, deed)[0], state)

    def test_what_is_asked_is_told_by_pays_shape_and_answers_alone(self):
        for pays, shape in CASES[::2]:
            answers = tuple(at % len(pays[0]) for at in range(4))
            for past in ((), ((OCTAGON, ()),), ((LEFT, (0,)), (shape, answers)) * 7):
                state = (pays, shape, answers, past)
                self.assertIs(session_step(state, ("ask",))[1], is_led(pays, shape))
                self.assertEqual(session_step(state, ("mean",))[1], own_step(state, ("mean",))[1])

    def test_the_mean_of_a_led_shape_is_within_the_guarantee(self):
        many = 0
        for pays, shape in CASES:
            if is_led(pays, shape):
                many += 1
                for rounds in (1, 2, 5, 11):
                    answers = tuple((at * at) % len(pays[0]) for at in range(rounds))
                    mean = session_step((pays, shape, answers, ()), ("mean",))[1]
                    most = Fraction(*guarantee(pays, rounds, 0))
                    self.assertLessEqual(Fraction(*squared_from(shape, mean)), most)
        self.assertGreater(many, 30)

    def test_no_dice_is_none(self):
        self.assertEqual(session_step((ONE_ACT_PAYS, CORNER, (0, 0), ()), ("mean",))[1], "none")
        self.assertEqual(session_step((ONE_ACT_PAYS, CORNER, (0,), ()), ("mean",))[1], ((1, 1), (0, 1)))
        # Kept out, but no mean so far has asked for dice that there aren't.
        pays = (((-1, 0), (3, 0)),)
        self.assertEqual(session_step((pays, LEFT, (0, 1), ()), ("mean",))[1], ((1, 1), (0, 1)))
        self.assertEqual(session_step((pays, LEFT, (0, 1, 0), ()), ("mean",))[1], "none")

    def test_a_deed_and_its_undo(self):
        many = 0
        for at, (pays, shape) in enumerate(CASES):
            state = played(pays, shape, let_deeds(begun(pays, shape), made_deeds(6, at + 500)))[0]
            for deed in (("answer", 0), ("line", (1, 1, 1000)), ("line", (0, -2, 999)), ("unline", 0)):
                if is_let(state, deed):
                    many += 1
                    behind = session_step(state, deed)[0]
                    self.assertNotEqual(behind, state)
                    self.assertEqual(session_step(behind, ("undo",)), (state, None))
        self.assertGreater(many, 200)

    def test_all_taken_back(self):
        for at, (pays, shape) in enumerate(CASES):
            start = begun(pays, shape)
            state = played(pays, shape, let_deeds(start, made_deeds(20, at + 900)))[0]
            while state[3]:
                state = session_step(state, ("undo",))[0]
            self.assertEqual(state, start)
            self.refused(NoRow, session_step, state, ("undo",))

    def test_lines_put_and_taken_away(self):
        changed = 0
        for pays, shape in CASES:
            led = is_led(pays, shape)
            for number in range(len(shape)):
                if len(shape) > 1:
                    state = session_step(begun(pays, shape), ("unline", number))[0]
                    self.assertEqual(state[1], shape[:number] + shape[number + 1:])
                    now = session_step(state, ("ask",))[1]
                    changed += now is not led
                    self.assertTrue(now or not led)
            for line in ((1, 0, 0), (-1, 1, 2), (0, 1, -3), shape[0]):
                if len(shape) < 8 and has_point(shape + (line,)):
                    state = session_step(begun(pays, shape), ("line", line))[0]
                    self.assertEqual(state[1], shape + (line,))
                    now = session_step(state, ("ask",))[1]
                    changed += now is not led
                    self.assertTrue(led or not now)
        self.assertGreater(changed, 50)


class RefusedDeedsTest(RefusalCase):
    def test_what_is_no_deed(self):
        for state in (START, (EXAMPLE_PAYS, CORNER, (0,) * 60, (MOMENT,) * 200)):
            for deed in NO_DEEDS:
                self.refused_place((), BadDeed, session_step, state, deed)

    def test_answers(self):
        wrong = OTHER_KINDS + (-1, 2, 10 ** 40, (0,), "0")
        for state in (START, (EXAMPLE_PAYS, CORNER, (0,) * 60, ()), (EXAMPLE_PAYS, CORNER, (), (MOMENT,) * 200)):
            for value in wrong:
                self.refused_value(BadParameter, value, session_step, state, ("answer", value))
        self.refused_value(BadParameter, 1, session_step, begun(ONE_ANSWER_PAYS, CORNER), ("answer", 1))
        self.assertEqual(session_step(begun(UNEVEN_PAYS, CORNER), ("answer", 2))[0][2], (2,))

    def test_sixty_answers_and_one_more(self):
        deeds = (("answer", 0), ("answer", 1)) * 30
        state, _ = played(EXAMPLE_PAYS, CORNER, deeds)
        self.assertEqual((state[2], len(state[3])), ((0, 1) * 30, 60))
        self.assertEqual(self.refused(TooGreat, session_step, state, ("answer", 0)).most, 60)
        self.assertEqual(self.refused(TooGreat, played, EXAMPLE_PAYS, CORNER, deeds + (("answer", 0),)).most, 60)
        self.assertEqual(session_step(state, ("mean",))[1], steered(EXAMPLE_PAYS, CORNER, (0, 1) * 30)[1][-1])
        # Too many answers are told ahead of too much that was done.
        full = (EXAMPLE_PAYS, CORNER, (0,) * 60, (MOMENT,) * 200)
        self.assertEqual(self.refused(TooGreat, session_step, full, ("answer", 0)).most, 60)

    def test_two_hundred_things_done_and_one_more(self):
        full = (EXAMPLE_PAYS, CORNER, (0, 1), (MOMENT,) * 200)
        for deed in (("answer", 0), ("line", (1, 0, 0)), ("unline", 0)):
            self.assertEqual(self.refused(TooGreat, session_step, full, deed).most, 200)
            found = session_step(full[:3] + ((MOMENT,) * 199,), deed)[0]
            self.assertEqual(found[3], (MOMENT,) * 199 + ((CORNER, (0, 1)),))
        for deed, told in ((("ask",), True), (("mean",), ((1, 4), (3, 4)))):
            self.assertEqual(session_step(full[:2] + ((0, 0), full[3]), deed)[1], told)
        self.assertEqual(session_step(full, ("undo",)), ((EXAMPLE_PAYS, CORNER, (), (MOMENT,) * 199), None))
        # Other errors are told ahead of it.
        self.refused_value(BadParameter, 2, session_step, full, ("answer", 2))
        self.refused_value(BadParameter, 2, session_step, full, ("unline", 2))
        self.refused_place((2,), BadShape, session_step, full, ("line", (0, 0, 1)))
        self.refused_place((), BadShape, session_step, full, ("line", (-1, 0, -1)))
        self.refused_place((), BadShape, session_step, (EXAMPLE_PAYS, LEFT, (), (MOMENT,) * 200), ("unline", 0))

    def test_two_hundred_deeds_played(self):
        deeds = (("answer", 0), ("line", (1, 1, 1)), ("unline", 2)) * 60 + (("line", (1, 1, 1)), ("unline", 2)) * 10
        state, answers = played(EXAMPLE_PAYS, CORNER, deeds)
        self.assertEqual((len(state[3]), len(answers), state[1]), (200, 200, CORNER))
        for deed in (("line", (1, 1, 1)), ("unline", 0)):
            self.assertEqual(self.refused(TooGreat, played, EXAMPLE_PAYS, CORNER, deeds + (deed,)).most, 200)
        # What was taken back isn't counted.
        more = (("undo",), ("answer", 0), ("undo",), ("undo",), ("line", (0, 1, 5)), ("line", (0, 1, 6)))
        self.refused(TooGreat, played, EXAMPLE_PAYS, CORNER, deeds + (("undo",), ("answer", 0)))
        more = (("undo",), ("undo",), ("line", (0, 1, 5)), ("line", (0, 1, 6)))
        self.assertEqual(len(played(EXAMPLE_PAYS, CORNER, deeds + more)[0][3]), 200)
        pairs = (("answer", 1), ("undo",)) * 1000
        self.assertEqual(played(EXAMPLE_PAYS, CORNER, pairs), (START, (None,) * 2000))

    def test_lines(self):
        for value in NO_LINES:
            self.refused_place((2,), BadShape, session_step, START, ("line", value))
        self.refused_place((), BadShape, session_step, START, ("line", (-1, 0, -1)))
        self.assertEqual(session_step(START, ("line", (-2, 0, -1)))[0][1], CORNER + ((-2, 0, -1),))
        # A ninth line, whatever it is.
        full = begun(EXAMPLE_PAYS, OCTAGON)
        for value in ((1, 0, 0), (0, 0, 0), None, OCTAGON[0], Strange()):
            self.refused_place((), BadShape, session_step, full, ("line", value))
        self.assertEqual(len(session_step(begun(EXAMPLE_PAYS, OCTAGON[:7]), ("line", OCTAGON[7]))[0][1]), 8)

    def test_lines_taken_away(self):
        for value in OTHER_KINDS + (-1, 2, 10 ** 40, (0,)):
            self.refused_value(BadParameter, value, session_step, START, ("unline", value))
        self.refused_value(BadParameter, 1, session_step, begun(EXAMPLE_PAYS, LEFT), ("unline", 1))
        self.refused_place((), BadShape, session_step, begun(EXAMPLE_PAYS, LEFT), ("unline", 0))
        state = session_step(START, ("unline", 0))[0]
        self.assertEqual(state[1], CORNER[1:])
        self.refused_place((), BadShape, session_step, state, ("unline", 0))

    def test_nothing_there(self):
        for deed in (("mean",), ("undo",)):
            self.refused(NoRow, session_step, START, deed)
        self.refused(NoRow, session_step, (EXAMPLE_PAYS, CORNER, (), (MOMENT,)), ("mean",))
        self.refused(NoRow, session_step, (EXAMPLE_PAYS, CORNER, (0,), ()), ("undo",))

    def test_the_state_is_told_first(self):
        for deed in (None, ("ask", 1), ("answer", None), ("undo",)):
            self.refused_place((3, 0), BadDeed, session_step, START[:3] + ((None,),), deed)
            self.refused_place((0,), BadPays, session_step, ((None,),) + START[1:], deed)

    def test_what_is_refused_changes_nothing(self):
        state = played(EXAMPLE_PAYS, CORNER, (("answer", 0), ("line", (1, 1, 5))))[0]
        told = (EXAMPLE_PAYS, CORNER + ((1, 1, 5),), (0,), ((CORNER, ()), (CORNER, (0,))))
        for deed in NO_DEEDS + (("answer", 2), ("line", None), ("unline", 3), ("line", (-1, 0, -1))):
            with self.assertRaises(ShapeError):
                session_step(state, deed)
            self.assertEqual(state, told)


class PlayedTest(RefusalCase):
    def test_beside_each_step_by_itself(self):
        for at, (pays, shape) in enumerate(CASES):
            state = begun(pays, shape)
            deeds = let_deeds(state, made_deeds(30, at + 50))
            answers = ()
            for deed in deeds:
                state, answer = session_step(state, deed)
                answers += (answer,)
            self.assertEqual(played(pays, shape, deeds), (state, answers))
            # The same, played again.
            self.assertEqual(played(pays, shape, deeds), (state, answers))

    def test_no_deeds(self):
        for pays, shape in CASES[::5]:
            self.assertEqual(played(pays, shape, ()), ((pays, shape, (), ()), ()))

    def test_the_first_one_that_is_refused(self):
        calls = ((("answer", 0), ("answer", 2), ("line", None)), (("answer", 2),), (("ask",), ("answer", 2), None))
        for deeds in calls:
            self.refused_value(BadParameter, 2, played, EXAMPLE_PAYS, CORNER, deeds)
        self.refused_place((2,), BadShape, played, EXAMPLE_PAYS, CORNER, (("ask",), ("line", None), ("answer", 2)))
        self.refused_place((), BadDeed, played, EXAMPLE_PAYS, CORNER, (("ask",), ("undo", 1), ("undo",)))
        self.refused(NoRow, played, EXAMPLE_PAYS, CORNER, (("undo",), None))
        for deed in NO_DEEDS:
            self.refused_place((), BadDeed, played, EXAMPLE_PAYS, CORNER, (deed,))
            self.refused_place((), BadDeed, played, EXAMPLE_PAYS, CORNER, (("answer", 0), deed, None))

    def test_wrong_parameters(self):
        for place, value in NO_PAYS:
            self.refused_place(place, BadPays, played, value, CORNER, ())
        for place, value in NO_SHAPES:
            self.refused_place(place, BadShape, played, EXAMPLE_PAYS, value, ())
        self.refused_place((), BadPays, played, None, None, None)
        self.refused_place((), BadShape, played, EXAMPLE_PAYS, None, None)
        wrong = [value for value in OTHER_KINDS if type(value) is not tuple] + [[("ask",)], {("ask",): 0}, 1]
        self.each_refused(BadParameter, wrong, played, [EXAMPLE_PAYS, CORNER, None], 2)

    def test_all_rows_of_a_few_deeds(self):
        deeds = (("answer", 0), ("answer", 1), ("line", (1, 1, 1)), ("unline", 0), ("undo",), ("mean",), ("ask",))
        for row in product(deeds, repeat=3):
            state, told, refused = START, (), False
            for deed in row:
                refused = refused or not is_let(state, deed)
                if not refused:
                    state, answer = own_step(state, deed)
                    told += (answer,)
            if refused:
                with self.assertRaises(ShapeError):
                    played(EXAMPLE_PAYS, CORNER, row)
            else:
                self.assertEqual(played(EXAMPLE_PAYS, CORNER, row), (state, told))


if __name__ == "__main__":
    unittest.main()
