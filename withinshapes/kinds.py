"""Of what kind a value is that was handed in.

Kinds are asked of the value's own class alone: True and False are no integers,
and nothing that a strange value brings along is called.
"""


def is_int(value):
    """Whether a value is an integer."""
    return type(value) is int


def is_int_within(value, least, most):
    """Whether a value is an integer from least to most."""
    return is_int(value) and least <= value <= most


def is_tuple(value):
    """Whether a value is a tuple."""
    return type(value) is tuple


def is_row(value, least, most):
    """Whether a value is a tuple of least to most things."""
    return is_tuple(value) and least <= len(value) <= most


def is_pair(value):
    """Whether a value is a tuple of two things."""
    return is_row(value, 2, 2)
