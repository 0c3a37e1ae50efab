"""Of what kind a value is that was handed in.

Kinds are asked of the value's own class alone: True and False are no integers,
and nothing that a strange value brings along is called.
"""

MOST_ACTS = 4
MOST_ANSWERS = 4


def is_int(value):
    """Whether a value is an integer."""
    return type(value) is int


def is_int_within(value, least, most):
    """Whether a value is an integer from least to most."""
    return is_int(value) and least <= value <= most


def is_text(value):
    """Whether a value is a text."""
    return type(value) is str


def is_tuple(value):
    """Whether a value is a tuple."""
    return type(value) is tuple


def is_row(value, least, most):
    """Whether a value is a tuple of least to most things."""
    return is_tuple(value) and least <= len(value) <= most


def is_pair(value):
    """Whether a value is a tuple of two things."""
    return is_row(value, 2, 2)


def is_number_set(value, most):
    """Whether a value is a SET of integers from 0 to most."""
    if not is_tuple(value) or not all([is_int_within(number, 0, most) for number in value]):
        return False
    return all([value[place] < value[place + 1] for place in range(len(value) - 1)])


def wrong_place(table, is_thing):
    """The first place that keeps a value from being a tuple of acts, None if there is none.

    Each act has as many answers as the first one, and is_thing tells what is right for an answer.
    """
    if not is_row(table, 1, MOST_ACTS):
        return ()
    for act, row in enumerate(table):
        if not is_row(row, 1, MOST_ANSWERS) or len(row) != len(table[0]):
            return (act,)
        for answer, thing in enumerate(row):
            if not is_thing(thing):
                return (act, answer)
    return None
