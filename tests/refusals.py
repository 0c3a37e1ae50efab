"""What the tests of refusals share."""

import unittest


class Strange:
    """A value that breaks whoever asks it for anything."""

    def stop(self, *_):
        raise AssertionError("a strange value was asked")

    __eq__ = __ne__ = __lt__ = __le__ = __gt__ = __ge__ = stop
    __len__ = __iter__ = __getitem__ = __bool__ = __hash__ = __index__ = __int__ = stop

    @property
    def __class__(self):
        raise AssertionError("a strange value was asked")


def deep_tuple():
    """A tuple that is nested too deep for any recursion."""
    value = ()
    for _ in range(100000):
        value = (value,)
    return value


# What is no integer, no fraction, no point, no pays, no dice and no odds.
OTHER_KINDS = (
    None, True, False, "", "1", "1/2", b"1", 1.0, 0.5, [], [1, 2], [(1, 1)], [(1, 2), (1, 2)],
    {}, {0: 1}, {1, 2}, (), (1,), (None, None), ("1", "2"), deep_tuple(), object(), int, Strange(),
)

NO_FRACTIONS = OTHER_KINDS + (
    1, 0, -1, (1, 2, 3), (2, 4), (-2, 4), (3, 3), (0, 2), (0, 7), (1, 0), (0, 0), (1, -2), (-1, -2), (2, -4),
    (True, 1), (1, True), (False, 1), (1.0, 2), (1, 2.0), ("1", 2), (1, None), ((1, 1), (1, 2)), [1, 1],
    (2 * 10 ** 40, 4), (10 ** 40, 10 ** 39),
)

NO_POINTS = OTHER_KINDS + (
    1, (1, 2), (0, 1), ((1, 2),), ((1, 2), (1, 2), (1, 2)), [(1, 2), (1, 2)], ([1, 2], (1, 2)), ((1, 2), [1, 2]),
    ((2, 4), (1, 2)), ((1, 2), (2, 4)), ((1, 0), (1, 2)), ((1, 2), (1, 0)), ((1, -2), (1, 2)), ((1, 2), (1, -2)),
    ((True, 1), (1, 2)), ((1, 2), (0, True)), ((1, 2), None), (None, (1, 2)), (1, (1, 2)), ((1, 2), Strange()),
)

# What is neither DICE for two acts nor ODDS for two answers.
NO_HALVES = OTHER_KINDS + (
    1, (1, 1), ((1, 1),), ((1, 2), (1, 2), (0, 1)), ((0, 1), (0, 1)), ((1, 2), (1, 3)), ((1, 2), (2, 3)),
    ((-1, 2), (3, 2)), ((3, 2), (-1, 2)), ((-1, 3), (4, 3)), ((1, 1), (1, 1)), ((2, 4), (1, 2)), ((1, 2), (2, 4)),
    ((1, 2), None), (None, (1, 2)), ((1, 2), 1), ((True, 1), (0, 1)), ((1, 1), (False, 1)), ((1, 1), (0, 2)),
    ([1, 2], (1, 2)), ((1, 2), [1, 2]), ([1, 1], [0, 1]), ((1, 2), (-1, -2)), ((1, 1), Strange()),
)


class RefusalCase(unittest.TestCase):
    """Test cases that ask whether calls are refused as told."""

    def refused(self, error, call, *given, **named):
        """The error that the call raises, which must be of this very class."""
        with self.assertRaises(error) as caught:
            call(*given, **named)
        self.assertIs(type(caught.exception), error)
        return caught.exception

    def refused_value(self, error, value, call, *given):
        """The call is refused with an error that bears this very value."""
        self.assertIs(self.refused(error, call, *given).value, value)

    def refused_place(self, place, error, call, *given):
        """The call is refused with an error that bears this place."""
        found = self.refused(error, call, *given).place
        self.assertEqual(found, place)
        self.assertIs(type(found), tuple)

    def each_refused(self, error, wrong, call, right, number):
        """Each wrong value is refused as this parameter, all others being right."""
        for value in wrong:
            given = list(right)
            given[number] = value
            self.refused_value(error, value, call, *given)
