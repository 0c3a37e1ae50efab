"""Sessions: rounds that are answered and a shape that is mended, deed by deed."""

from withinshapes.errors import BadDeed, BadParameter, NoDice, NoRow, TooGreat
from withinshapes.kinds import is_int_within, is_pair, is_row, is_text, is_tuple
from withinshapes.leading import leads
from withinshapes.points import are_answers
from withinshapes.shapes import check_both, is_shape, need_shape
from withinshapes.steering import steer

MOST_ANSWERED = 60
MOST_PAST = 200
# How many things the deed with this word has.
DEEDS = {"answer": 2, "line": 2, "unline": 2, "ask": 1, "mean": 1, "undo": 1}


def begun(pays, shape):
    """The state in which nothing was done."""
    check_both(pays, shape)
    return (pays, shape, (), ())


def is_moment(pays, value):
    """Whether a value is a pair of a shape and ANSWERS of the pays."""
    return is_pair(value) and is_shape(value[0]) and are_answers(pays, value[1], MOST_ANSWERED)


def need_state(state):
    """The STATE itself."""
    if not is_row(state, 4, 4):
        raise BadDeed(())
    pays, shape, answers, past = state
    check_both(pays, shape)
    if not are_answers(pays, answers, MOST_ANSWERED):
        raise BadDeed((2,))
    if not is_row(past, 0, MOST_PAST):
        raise BadDeed((3,))
    for number, moment in enumerate(past):
        if not is_moment(pays, moment):
            raise BadDeed((3, number))
    return state


def check_deed(deed):
    """Refuses what is none of the deeds; the thing behind the word may be anything."""
    if not is_row(deed, 1, 2) or not is_text(deed[0]) or DEEDS.get(deed[0]) != len(deed):
        raise BadDeed(())


def answered(pays, answers, answer):
    """The ANSWERS with one more."""
    if not is_int_within(answer, 0, len(pays[0]) - 1):
        raise BadParameter(answer)
    if len(answers) == MOST_ANSWERED:
        raise TooGreat(MOST_ANSWERED)
    return answers + (answer,)


def without_line(shape, number):
    """The shape without one of its lines."""
    if not is_int_within(number, 0, len(shape) - 1):
        raise BadParameter(number)
    return need_shape(shape[:number] + shape[number + 1:])


def changed(state, word, thing):
    """The state behind a deed that changes the shape or the answers."""
    pays, shape, answers, past = state
    then = (shape, answers)
    if word == "answer":
        answers = answered(pays, answers, thing)
    elif word == "line":
        shape = need_shape(shape + (thing,))
    else:
        shape = without_line(shape, thing)
    if len(past) == MOST_PAST:
        raise TooGreat(MOST_PAST)
    return (pays, shape, answers, past + (then,))


def undone(state):
    """The state ahead of the last deed that changed the shape or the answers."""
    pays, _, _, past = state
    if not past:
        raise NoRow()
    shape, answers = past[-1]
    return (pays, shape, answers, past[:-1])


def mean_so_far(state):
    """The mean of the rounds so far, if one steers; "none" if no DICE do."""
    pays, shape, answers, _ = state
    if not answers:
        raise NoRow()
    try:
        _, means = steer([(pays, answer) for answer in answers], shape, 0)
    except NoDice:
        return "none"
    return means[-1]


def step_from(state, deed):
    """(STATE, ANSWER) behind a deed, from a state that is known to be right."""
    check_deed(deed)
    word = deed[0]
    if word == "ask":
        return (state, leads(state[0], state[1]))
    if word == "mean":
        return (state, mean_so_far(state))
    if word == "undo":
        return (undone(state), None)
    return (changed(state, word, deed[1]), None)


def session_step(state, deed):
    """(STATE, ANSWER): the state behind the deed, and the deed's answer."""
    need_state(state)
    return step_from(state, deed)


def played(pays, shape, deeds):
    """(STATE, ANSWERS) behind all deeds, from the state on in which nothing was done."""
    state = begun(pays, shape)
    if not is_tuple(deeds):
        raise BadParameter(deeds)
    told = []
    for deed in deeds:
        state, answer = step_from(state, deed)
        told.append(answer)
    return (state, tuple(told))
