"""Promises 36 and 37: by how much all lines of a shape, or one of them, must give way till it is led."""

import unittest
from fractions import Fraction

from tests.common import (
    APART, CORNER, EXAMPLE_PAYS, NAMED_PAYS, NO_HALVES, NO_PAYS, NO_SHAPES, NO_WALLS, ONE_ACT_PAYS, ONE_ANSWER_PAYS,
    OTHER_KINDS, POINT_OF_THREE, SHAPES, SINGLE_POINT, STRIP, RefusalCase, Strange, has_point, made_pays,
)
from withinshapes.ends import same_points, widened
from withinshapes.errors import BadParameter, BadPays, BadShape, NoRow, TooGreat
from withinshapes.heights import height
from withinshapes.leading import is_lead, is_led, lead
from withinshapes.widening import is_least_push, is_least_widening, least_push, least_widening

AXES = ((1, 0, 0), (0, 1, 0))
LEFT = ((1, 0, 0),)
EVEN = ((1, 2), (1, 2))
FIRST = ((1, 1), (0, 1))
ALL_PAYS = NAMED_PAYS + tuple(made_pays(32, 71)) + tuple(made_pays(16, 72, 12))
CASES = [(pays, shape) for at, pays in enumerate(ALL_PAYS) for shape in SHAPES[at % 17::17]]


def wider(shape, more):
    """The shape with a C greater by so much for each line."""
    return tuple((a, b, c + more) for a, b, c in shape)


def with_end(shape, number, end):
    """The shape with this C for one of its lines."""
    return tuple((a, b, end if at == number else c) for at, (a, b, c) in enumerate(shape))


def alone(x, y):
    """The PAYS of a single pair."""
    return (((x, y),),)


class LeastWideningTest(RefusalCase):
    def shows(self, pays, shape, value):
        """Asks the papers of a triple for what they show."""
        more, chains, out = value
        self.assertIs(is_lead(pays, wider(shape, more), ("led", chains)), True)
        if more == 0:
            self.assertIsNone(out)
        else:
            self.assertIs(is_lead(pays, wider(shape, more - 1), ("out", out)), True)

    def test_led_so_and_not_by_one_less(self):
        found = {"nought": 0, "some": 0, "too great": 0}
        for pays, shape in CASES:
            most = 1000 - max(line[2] for line in shape)
            if not is_led(pays, wider(shape, most)):
                found["too great"] += 1
                self.assertEqual(self.refused(TooGreat, least_widening, pays, shape).most, 1000)
                continue
            value = least_widening(pays, shape)
            found["some" if value[0] else "nought"] += 1
            self.shows(pays, shape, value)
            self.assertIs(is_led(pays, wider(shape, value[0])), True)
            self.assertTrue(value[0] == 0 or not is_led(pays, wider(shape, value[0] - 1)))
            self.assertIs(is_least_widening(pays, shape, value), True)
        self.assertGreater(min(found.values()), 5)

    def test_beside_a_plain_search(self):
        for pays, shape in CASES[::4]:
            told = next((more for more in range(min(24, 1001 - max(line[2] for line in shape))) if is_led(pays, wider(shape, more))), None)
            if told is not None:
                self.assertEqual(least_widening(pays, shape)[0], told)

    def test_the_examples(self):
        for shape in (AXES, ((2, 0, 0), (0, 2, 0))):
            value = least_widening(EXAMPLE_PAYS, shape)
            self.assertEqual(value[0], 1)
            self.shows(EXAMPLE_PAYS, shape, value)
        more, _, out = least_widening(EXAMPLE_PAYS, CORNER)
        self.assertEqual((more, out), (0, None))

    def test_the_points_of_the_shape_widened(self):
        for shape in SHAPES[::4]:
            for more in (1, 7, 100):
                self.assertEqual(widened(shape, (more, 1)), wider(shape, more))
                if max(line[2] for line in shape) + more <= 1000:
                    self.assertIs(same_points(wider(shape, more), widened(shape, (more, 1))), True)

    def test_one_line_by_its_height(self):
        for pays in ALL_PAYS:
            for a, b, c in ((1, 0, 0), (2, -1, -9), (-3, -4, 5), (0, 1, -1000), (7, 7, 1000)):
                above, below = height(pays, a, b)[0]
                # The least integer from the height on.
                told = max(-(-above // below) - c, 0)
                if c + told <= 1000:
                    self.assertEqual(least_widening(pays, ((a, b, c),))[0], told)
                else:
                    self.refused(TooGreat, least_widening, pays, ((a, b, c),))

    def test_up_to_just_a_thousand_and_beyond(self):
        for line, more in (((10, 0, 0), 1000), ((10, 0, 1), 999), ((10, 0, 1000), 0), ((10, 0, 999), 1),
                           ((10, 0, -1000), 2000), ((5, 5, -1000), 2000), ((1, 0, -1000), 1100)):
            value = least_widening(alone(100, 100), (line,))
            self.assertEqual(value[0], more)
            self.shows(alone(100, 100), (line,), value)
        for line in ((10, 1, 0), (11, 0, 1000), (11, 0, -1000), (1000, 1000, -1000), (501, 500, 999)):
            self.assertEqual(self.refused(TooGreat, least_widening, alone(100, 100), (line,)).most, 1000)
        # The line with the greatest C tells how far all can go, also if it is led as it is.
        shape = ((0, 1, 1000), (1, 0, 99))
        self.assertEqual(self.refused(TooGreat, least_widening, alone(100, 100), shape).most, 1000)
        self.assertEqual(least_widening(alone(100, 100), ((0, 1, 999), (1, 0, 99)))[0], 1)
        self.refused(TooGreat, least_widening, alone(100, 100), ((0, 1, 999), (1, 0, 98)))
        self.assertEqual(least_widening(alone(99, 0), ((0, 1, 1000), (1, 0, 99)))[0], 0)

    def test_how_much_both_wishes_cost(self):
        # Each by itself is led; both at once cost one.
        for line in AXES:
            self.assertEqual(least_widening(ONE_ANSWER_PAYS, (line,))[0], 0)
        self.assertEqual(least_widening(ONE_ANSWER_PAYS, AXES)[0], 1)
        self.assertEqual(least_widening(ONE_ANSWER_PAYS, ((10, 0, 0), (0, 10, 0)))[0], 5)
        self.assertEqual(least_widening(ONE_ANSWER_PAYS, ((3, 0, 0), (0, 3, 0)))[0], 2)

    def test_single_points_and_strips(self):
        for shape in (SINGLE_POINT, POINT_OF_THREE, STRIP):
            for pays in (EXAMPLE_PAYS, ONE_ACT_PAYS, alone(3, -4)):
                value = least_widening(pays, shape)
                self.shows(pays, shape, value)

    def test_greater_shapes_need_no_more(self):
        for pays, shape in CASES[::6]:
            if len(shape) > 1 and is_led(pays, wider(shape, 1000 - max(line[2] for line in shape))):
                more = least_widening(pays, shape)[0]
                self.assertLessEqual(least_widening(pays, shape[1:])[0], more)
                if more > 0:
                    self.assertEqual(least_widening(pays, wider(shape, 1))[0], more - 1)


class IsLeastWideningTest(RefusalCase):
    def left(self, value, pays=EXAMPLE_PAYS, shape=AXES):
        self.assertIs(is_least_widening(pays, shape, value), False)

    def taken(self, value, pays=EXAMPLE_PAYS, shape=AXES):
        self.assertIs(is_least_widening(pays, shape, value), True)

    def papers(self, pays, shape, more):
        """A triple for any W by which the shape widened is led, as good as papers can be."""
        chains = lead(pays, wider(shape, more))[1]
        return (more, chains, lead(pays, wider(shape, more - 1))[1] if more else None)

    def test_other_papers(self):
        more, chains, out = least_widening(EXAMPLE_PAYS, AXES)
        self.taken((more, chains, ((1, 0, 0), EVEN)))
        self.taken((more, chains, ((10 ** 40, 0, 10 ** 39), EVEN)))
        self.taken((more, chains, ((0, 1, 0), EVEN)))
        for other in (((1, 0, 1), EVEN), ((2, 0, 1), EVEN), ((1, 0, 0), FIRST), ((1, 0, -1), EVEN), ((-1, 0, 0), EVEN)):
            self.left((more, chains, other))
        self.left((more, chains[:-1], out))
        self.left((more, chains + chains[:1], out))
        self.left((more, (), out))
        self.left((more, chains, None))
        self.left((more, chains, ()))
        self.left((more, ("led", chains), out))
        self.left((more, chains, ("out", out)))

    def test_more_and_less(self):
        for pays, shape in CASES[::4]:
            if not is_led(pays, wider(shape, 1000 - max(line[2] for line in shape))):
                continue
            more, chains, out = least_widening(pays, shape)
            self.left((more + 1, chains, out), pays, shape)
            self.left((more - 1, chains, out), pays, shape)
            if max(line[2] for line in shape) + more + 1 <= 1000:
                self.left(self.papers(pays, shape, more + 1), pays, shape)
                self.left((more + 1, lead(pays, wider(shape, more + 1))[1], out), pays, shape)
                self.left((more + 1, lead(pays, wider(shape, more + 1))[1], None), pays, shape)
            self.left((more, chains, None if more else lead(pays, shape)[1]), pays, shape)

    def test_nought_has_no_other_paper(self):
        more, chains, out = least_widening(EXAMPLE_PAYS, CORNER)
        self.taken((0, chains, None), EXAMPLE_PAYS, CORNER)
        for value in tuple(OTHER_KINDS[1:]) + (0, ((1, 0, 0), EVEN), ((1, 0, -1), EVEN)):
            self.left((0, chains, value), EXAMPLE_PAYS, CORNER)

    def test_no_value_where_it_is_too_great(self):
        shape = ((0, 1, 1000), (1, 0, 99))
        pays = alone(100, 100)
        chains = lead(pays, ((0, 1, 1000), (1, 0, 100)))[1]
        out = lead(pays, shape)[1]
        for more in (0, 1, 2, 1000, 1001, -1):
            for told in (out, None, ((1, 0, 99), ((1, 1),))):
                self.left((more, chains, told), pays, shape)

    def test_values_that_are_none(self):
        right = least_widening(EXAMPLE_PAYS, AXES)
        for value in OTHER_KINDS + (1, right[:2], right + (None,), list(right), right[::-1], (Strange(),) * 3):
            self.left(value)
        for value in OTHER_KINDS + (-1, 2, 1000, 1001, 10 ** 40, (1, 1)):
            self.left((value, right[1], right[2]))
        for value in OTHER_KINDS:
            self.left((right[0], value, right[2]))
            self.left((right[0], right[1], value))
            self.left((right[0], right[1][:2] + (value,), right[2]))
        for value in NO_WALLS:
            self.left((right[0], right[1], (value, EVEN)))
        for value in NO_HALVES:
            self.left((right[0], right[1], ((1, 0, 0), value)))


class LeastPushTest(RefusalCase):
    def shows(self, pays, shape, number, value):
        """Asks the papers of a triple for what they show."""
        end, chains, out = value
        self.assertIs(is_lead(pays, with_end(shape, number, end), ("led", chains)), True)
        less = with_end(shape, number, end - 1)
        if end == -1000:
            self.assertIsNone(out)
        elif not has_point(less):
            self.assertEqual(out, ())
        else:
            self.assertIs(is_lead(pays, less, ("out", out)), True)

    def test_led_so_and_not_by_one_less(self):
        kinds = {"out": 0, "no point": 0, "no row": 0}
        for at, (pays, shape) in enumerate(CASES):
            number = at % len(shape)
            if not is_led(pays, with_end(shape, number, 1000)):
                kinds["no row"] += 1
                self.refused(NoRow, least_push, pays, shape, number)
                continue
            value = least_push(pays, shape, number)
            self.shows(pays, shape, number, value)
            self.assertIs(is_least_push(pays, shape, number, value), True)
            kinds["out" if value[2] else "no point"] += 1
        self.assertGreater(min(kinds.values()), 5)

    def test_beside_a_plain_search(self):
        for at, (pays, shape) in enumerate(CASES[::4]):
            number = at % len(shape)
            told = [end for end in range(-12, 24) if has_point(with_end(shape, number, end))
                    and is_led(pays, with_end(shape, number, end))]
            if told and told[0] > -12:
                self.assertEqual(told, list(range(told[0], 24)))
                self.assertEqual(least_push(pays, shape, number)[0], told[0])

    def test_the_example(self):
        value = least_push(EXAMPLE_PAYS, CORNER, 0)
        self.assertEqual(value[0], 1)
        self.shows(EXAMPLE_PAYS, CORNER, 0, value)
        self.assertIs(is_led(EXAMPLE_PAYS, ((2, 0, 0), (0, 2, 1))), False)

    def test_the_line_may_stand_anywhere(self):
        for end in (-1000, -5, 0, 1, 999, 1000):
            self.assertEqual(least_push(EXAMPLE_PAYS, ((2, 0, end), (0, 2, 1)), 0)[0], 1)
            self.assertEqual(least_push(EXAMPLE_PAYS, ((0, 2, 1), (2, 0, end)), 1)[0], 1)

    def test_one_line_by_its_height(self):
        for pays in ALL_PAYS:
            for a, b in ((1, 0), (2, -1), (-3, -4), (0, 1), (10, 0), (7, -7)):
                above, below = height(pays, a, b)[0]
                told = -(-above // below)
                if told > 1000:
                    self.refused(NoRow, least_push, pays, ((a, b, 0),), 0)
                else:
                    value = least_push(pays, ((a, b, 0),), 0)
                    self.assertEqual(value[0], max(told, -1000))
                    self.shows(pays, ((a, b, 0),), 0, value)

    def test_from_a_thousand_below_to_a_thousand(self):
        for line, pays, end in (((10, 0, 5), alone(-100, 3), -1000), ((11, 0, 5), alone(-100, 3), -1000),
                                ((10, 0, 5), alone(-99, 3), -990), ((10, 0, -5), alone(100, 3), 1000),
                                ((10, 1, -5), alone(99, 10), 1000)):
            value = least_push(pays, (line,), 0)
            self.assertEqual(value[0], end)
            self.assertEqual(value[2] is None, end == -1000)
            self.shows(pays, (line,), 0, value)
        for line in ((11, 0, 1000), (10, 1, 0), (-1000, -1000, 0)):
            pays = alone(100, 100) if line[0] > 0 else alone(-100, -100)
            self.refused(NoRow, least_push, pays, (line,), 0)

    def test_to_no_common_point(self):
        strip = ((1, 0, 9), (-1, 0, -5))
        self.assertEqual(least_push(alone(5, 0), strip, 0)[0], 5)
        self.assertEqual(least_push(alone(5, 0), strip, 0)[2], ())
        self.assertEqual(least_push(alone(7, 0), strip, 0)[0], 7)
        self.assertEqual(least_push(alone(7, 0), strip, 0)[2][1], ((1, 1),))
        # With C = 0 the lines let just one point: with less none.
        self.assertEqual(least_push(alone(0, 0), POINT_OF_THREE, 2)[::2], (0, ()))
        # Twice X at most C and at least 1: C is 1; the point between is no fraction of C.
        self.assertEqual(least_push(EXAMPLE_PAYS, ((3, 0, 9), (-2, 0, -1)), 0)[::2], (2, ()))

    def test_another_line_keeps_it_out(self):
        for number in (0, 1):
            self.refused(NoRow, least_push, EXAMPLE_PAYS, AXES, number)
        self.refused(NoRow, least_push, alone(5, 0), ((1, 0, 4), (0, 1, 7)), 1)
        self.assertEqual(least_push(alone(5, 0), ((1, 0, 4), (0, 1, 7)), 0)[0], 5)

    def test_lines_told_twice(self):
        self.assertEqual(least_push(alone(3, 0), ((1, 0, 9), (1, 0, 9)), 1)[0], 3)
        self.refused(NoRow, least_push, alone(3, 0), ((1, 0, 2), (1, 0, 2)), 1)

    def test_only_if_each_is_at_least_its_height(self):
        for pays in ALL_PAYS[::2]:
            for other in (-3, 0, 2, 50):
                shape = ((1, 0, 0), (0, 1, other))
                right, up = [Fraction(*height(pays, *way)[0]) for way in ((1, 0), (0, 1))]
                if other < up:
                    self.refused(NoRow, least_push, pays, shape, 0)
                elif is_led(pays, with_end(shape, 0, 1000)):
                    self.assertGreaterEqual(least_push(pays, shape, 0)[0], right)


class IsLeastPushTest(RefusalCase):
    STRIP = ((1, 0, 9), (-1, 0, -5))

    def left(self, value, pays=EXAMPLE_PAYS, shape=CORNER, number=0):
        self.assertIs(is_least_push(pays, shape, number, value), False)

    def taken(self, value, pays=EXAMPLE_PAYS, shape=CORNER, number=0):
        self.assertIs(is_least_push(pays, shape, number, value), True)

    def test_other_papers(self):
        end, chains, _ = least_push(EXAMPLE_PAYS, CORNER, 0)
        for wall in ((2, 0, 0), (1, 0, 0), (10 ** 40, 0, 10 ** 39), (5, 0, 2)):
            self.taken((end, chains, (wall, EVEN)))
        for wall in ((2, 0, 1), (-1, 0, 0), (0, 2, 1), (2, 0, -1), (1, 1, 0)):
            self.left((end, chains, (wall, EVEN)))
        for out in (None, (), ((2, 0, 0), FIRST), ("out", ((2, 0, 0), EVEN))):
            self.left((end, chains, out))
        for told in (chains[1:], chains + chains[:1], (), ("led", chains), chains[:1] + (None,) + chains[2:]):
            self.left((end, told, ((2, 0, 0), EVEN)))

    def test_more_and_less(self):
        for at, (pays, shape) in enumerate(CASES[::4]):
            number = at % len(shape)
            if is_led(pays, with_end(shape, number, 1000)):
                end, chains, out = least_push(pays, shape, number)
                case = (pays, shape, number)
                self.left((end - 1, chains, out), *case)
                self.left((end + 1, chains, out), *case)
                if end < 1000:
                    more = lead(pays, with_end(shape, number, end + 1))[1]
                    for told in (out, None, (), chains):
                        self.left((end + 1, more, told), *case)

    def test_no_common_point(self):
        end, chains, out = least_push(alone(5, 0), self.STRIP, 0)
        case = (alone(5, 0), self.STRIP)
        self.taken((5, chains, ()), *case)
        # Without a point each wall lets all of them: still it is no paper here.
        for value in OTHER_KINDS + (((1, 0, 4), ((1, 1),)), ((-1, 0, -6), ((1, 1),)), ((),)):
            if type(value) is not tuple or value != ():
                self.left((5, chains, value), *case)
        self.left((4, chains, ()), *case)
        self.left((4, (), ()), *case)
        # With a common point () is no paper.
        end, chains, out = least_push(alone(7, 0), self.STRIP, 0)
        self.taken((7, chains, ((1, 0, 6), ((1, 1),))), alone(7, 0), self.STRIP)
        self.left((7, chains, ()), alone(7, 0), self.STRIP)

    def test_lines_without_a_common_point_are_not_led(self):
        # Each line is led by an act, and both have a chain; but X at most 4 and at least 5 is no shape.
        pays = (((0, 0),), ((9, 0),))
        end, chains, out = least_push(pays, self.STRIP, 0)
        self.assertEqual((end, out), (5, ()))
        apart = [lead(pays, (line,))[1][0] for line in ((1, 0, 4), (-1, 0, -5))]
        self.left((4, tuple(apart), ()), pays, self.STRIP)
        self.left((4, chains, ()), pays, self.STRIP)
        self.taken((5, chains, ()), pays, self.STRIP)

    def test_a_thousand_below(self):
        end, chains, out = least_push(alone(-100, 3), ((11, 0, 5),), 0)
        case = (alone(-100, 3), ((11, 0, 5),))
        self.taken((-1000, chains, None), *case)
        for value in tuple(OTHER_KINDS[1:]) + (((11, 0, -1001), ((1, 1),)),):
            self.left((-1000, chains, value), *case)
        self.left((-1001, chains, None), *case)

    def test_no_value_where_there_is_none(self):
        led = least_push(EXAMPLE_PAYS, CORNER, 0)
        for end in (-1001, -1000, -1, 0, 1, 2, 999, 1000, 1001):
            for out in (led[2], None, ()):
                self.left((end, led[1], out), EXAMPLE_PAYS, AXES, 0)
                self.left((end, led[1], out), alone(100, 100), ((11, 0, 1000),), 0)

    def test_values_that_are_none(self):
        right = least_push(EXAMPLE_PAYS, CORNER, 0)
        self.taken(right)
        for value in OTHER_KINDS + (1, right[:2], right + (None,), list(right), right[::-1], (Strange(),) * 3):
            self.left(value)
        for value in OTHER_KINDS + (0, 2, -1000, 1000, 1001, -1001, 10 ** 40, (1, 1)):
            self.left((value, right[1], right[2]))
        for value in OTHER_KINDS:
            self.left((right[0], value, right[2]))
            self.left((right[0], right[1], value))
        for value in NO_WALLS:
            self.left((right[0], right[1], (value, EVEN)))
        for value in NO_HALVES:
            self.left((right[0], right[1], ((2, 0, 0), value)))


class WrongParametersTest(RefusalCase):
    CALLS = (
        (least_widening, ()), (is_least_widening, ((0, (), None),)), (least_push, (0,)),
        (is_least_push, (0, (0, (), None))),
    )
    NO_LINE = OTHER_KINDS + (-1, 2, 8, 10 ** 40, (0,), (0, 1))

    def test_wrong_pays(self):
        for call, more in self.CALLS:
            for place, value in NO_PAYS:
                self.refused_place(place, BadPays, call, value, CORNER, *more)
            for place, value in NO_PAYS[::40]:
                self.refused_place(place, BadPays, call, value, None, *[None for _ in more])

    def test_wrong_shapes(self):
        for call, more in self.CALLS:
            for place, value in NO_SHAPES:
                self.refused_place(place, BadShape, call, EXAMPLE_PAYS, value, *more)
            for place, value in NO_SHAPES[::40]:
                self.refused_place(place, BadShape, call, EXAMPLE_PAYS, value, *[None for _ in more])
        # Lines that would let a common point if they were pushed or widened are no shape as they are.
        self.refused_place((), BadShape, least_widening, EXAMPLE_PAYS, APART)
        self.refused_place((), BadShape, least_push, EXAMPLE_PAYS, APART, 0)

    def test_wrong_numbers(self):
        self.each_refused(BadParameter, self.NO_LINE, least_push, [EXAMPLE_PAYS, CORNER, None], 2)
        self.each_refused(BadParameter, self.NO_LINE, is_least_push, [EXAMPLE_PAYS, CORNER, None, None], 2)
        # A wrong number is told ahead of what isn't led.
        self.refused_value(BadParameter, 2, least_push, EXAMPLE_PAYS, AXES, 2)


if __name__ == "__main__":
    unittest.main()
