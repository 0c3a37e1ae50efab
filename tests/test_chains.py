"""Promises 6, 7 and 24: chains for turns, gaps, and who judges them."""

import unittest
from fractions import Fraction
from functools import cmp_to_key
from math import gcd

from tests.common import (
    CORNER, EXAMPLE_PAYS, HALF_ROOT, NAMED_PAYS, NOUGHT_ROOT, NO_HALVES, NO_KERNELS, NO_PARTS, NO_PAYS, NO_ROOTS,
    NO_SHAPES, NO_TURNS, OTHER_KINDS, SHAPES, SINGLE_POINT, UNEVEN_PAYS, UNIT_ROOT, RefusalCase, Strange, deep_tuple,
    made_pays, own_turns, pair, power_of, product_of, turn_cases,
)
from withinshapes.chains import chain_of, is_chain, is_gap
from withinshapes.errors import BadParameter, BadPays, BadShape
from withinshapes.games import met, worth
from withinshapes.polys import poly_at, roots_between
from withinshapes.roots import between, compared, halved, need_root, roots_of
from withinshapes.squares import first_kernel, kernels
from withinshapes.turns import game_at, kernel_meets, kernel_polys

CASES = turn_cases(NAMED_PAYS + tuple(made_pays(32, 11)) + tuple(made_pays(16, 12, 8)))
AXES = ((1, 0, 0), (0, 1, 0))
ACROSS = (0, 1)
BOTH = ((0, 1), (0, 1))
EXAMPLE = (EXAMPLE_PAYS, CORNER, ACROSS)
TOLD = ((NOUGHT_ROOT, HALF_ROOT, BOTH), (HALF_ROOT, UNIT_ROOT, BOTH))

# Its chain breaks where 2 T * T - 4 T + 1 is 0: from there on both acts meet the game, before that the first one.
SKEW = ((((-2, -2), (-2, 2)), ((0, 1), (1, -2))), AXES, ACROSS)
SKEW_BREAK = ((-1, 4, -2), (0, 1), (1, 1))
SKEW_TOLD = ((NOUGHT_ROOT, SKEW_BREAK, ((0,), (0,))), (SKEW_BREAK, UNIT_ROOT, BOTH))

FRACTIONS = [Fraction(n, d) for d in range(1, 10) for n in range(d + 1) if gcd(n, d) == 1]


def at_number(t):
    """The ROOT that is a FRACTION itself."""
    return ((), t, t)


def parted(start, end):
    """Two FRACTIONs near the numbers of two ROOTs and between them, the first one less."""
    for _ in range(400):
        start, end = halved(start), halved(end)
        width = Fraction(*end[1]) - Fraction(*start[2])
        if 1000 * (Fraction(*start[2]) - Fraction(*start[1])) < width > 1000 * (Fraction(*end[2]) - Fraction(*end[1])):
            return Fraction(*start[2]), Fraction(*end[1])
    raise AssertionError("no stretch")


def cell_places(case):
    """A FRACTION between each two neighbouring roots of all kernels' polynomials, and the ends of all."""
    polys = {poly for kernel in kernels(len(case[0]), len(case[0][0])) for polys in kernel_polys(*case, kernel)
             for poly in polys if len(poly) > 1}
    roots = [NOUGHT_ROOT, UNIT_ROOT] + [root for poly in sorted(polys) for root in roots_of(poly)]
    roots = sorted(roots, key=cmp_to_key(compared))
    return [(0, 1), (1, 1)] + [between(one, other) for one, other in zip(roots, roots[1:]) if compared(one, other) < 0]


class ChainOfTest(RefusalCase):
    def each_stretch(self, case, chain):
        """The chain, looked at stretch by stretch."""
        pays = case[0]
        self.assertEqual(chain[0][0], NOUGHT_ROOT)
        self.assertEqual(chain[-1][1], UNIT_ROOT)
        for one, other in zip(chain, chain[1:]):
            self.assertEqual(one[1], other[0])
        for start, end, kernel in chain:
            need_root(start)
            need_root(end)
            self.assertEqual(compared(start, end), -1)
            acts, answers = kernel
            self.assertTrue(len(acts) == len(answers) and set(acts) <= set(range(len(pays))))
            self.assertEqual((acts, answers), (tuple(sorted(set(acts))), tuple(sorted(set(answers)))))
            self.assertLessEqual(set(answers), set(range(len(pays[0]))))
            low, high = parted(start, end)
            polys = [poly for polys in kernel_polys(*case, kernel) for poly in polys if poly]
            self.assertEqual([roots_between(poly, pair(low), pair(high)) for poly in polys], [0] * len(polys))
            for part in (Fraction(1, 1000), Fraction(1, 3), Fraction(3, 4), Fraction(999, 1000)):
                t = pair(low + (high - low) * part)
                self.assertTrue(kernel_meets(*case, kernel, t))
                self.assertNotIn((0, 1), [poly_at(poly, t) for poly in polys])

    def each_act_is_above(self, case, gap):
        """The gap, looked at act by act."""
        t, odds = gap
        self.assertTrue(0 <= Fraction(*t) <= 1 and pair(Fraction(*t)) == t)
        shares = [Fraction(*share) for share in odds]
        self.assertTrue(min(shares) >= 0 and sum(shares) == 1)
        for act in game_at(*case, t):
            self.assertGreater(sum(share * Fraction(*number) for share, number in zip(shares, act)), 0)

    def test_either_is_what_it_says(self):
        words = {"chain": 0, "gap": 0}
        lengths = {0}
        for case in CASES:
            word, found = chain_of(*case)
            words[word] += 1
            if word == "chain":
                self.each_stretch(case, found)
                lengths.add(len(found))
                self.assertIs(is_chain(*case, found), True)
                self.assertIs(is_gap(*case, found), False)
            else:
                self.each_act_is_above(case, found)
                self.assertIs(is_gap(*case, found), True)
                self.assertIs(is_chain(*case, found), False)
        self.assertGreater(min(words.values()), 100)
        self.assertLessEqual({1, 2, 3}, lengths)

    def test_beside_the_worth_at_many_fractions(self):
        for case in CASES[::9]:
            word = chain_of(*case)[0]
            for t in FRACTIONS:
                if worth(game_at(*case, pair(t)))[0][0] > 0:
                    self.assertEqual(word, "gap")

    def test_beside_the_worth_between_neighbouring_roots_of_all_polynomials(self):
        words = {"chain": 0, "gap": 0}
        for case in CASES[::4]:
            pays, _, turn = case
            if len(pays) + len(pays[0]) < 6 and turn[0] != turn[1]:
                cells = cell_places(case)
                met_at_all = all(worth(game_at(*case, t))[0][0] <= 0 for t in cells)
                word = "chain" if met_at_all else "gap"
                words[word] += 1
                self.assertEqual(chain_of(*case)[0], word)
        self.assertGreater(min(words.values()), 10)

    def test_the_example(self):
        word, chain = chain_of(*EXAMPLE)
        self.assertEqual(word, "chain")
        self.assertEqual([kernel for _, _, kernel in chain], [BOTH, BOTH])
        self.assertEqual(compared(chain[0][1], HALF_ROOT), 0)
        self.assertIs(is_chain(*EXAMPLE, TOLD), True)

    def test_a_line_by_itself(self):
        self.assertEqual(chain_of(EXAMPLE_PAYS, CORNER, (0, 0)), ("chain", ((NOUGHT_ROOT, UNIT_ROOT, BOTH),)))
        self.assertEqual(chain_of((((-1, 0),),), AXES, (0, 0)), ("chain", ((NOUGHT_ROOT, UNIT_ROOT, ((0,), (0,))),)))
        word, (t, odds) = chain_of((((1, 0),),), AXES, (0, 0))
        self.assertEqual((word, odds), ("gap", ((1, 1),)))
        for case in CASES:
            if case[2][0] == case[2][1]:
                word, found = chain_of(*case)
                kernel = first_kernel(game_at(*case, (0, 1)))
                self.assertEqual(word, "gap" if kernel is None else "chain")
                self.assertTrue(word == "gap" or len(found) == 1)

    def test_a_break_that_is_no_fraction(self):
        word, chain = chain_of(*SKEW)
        self.assertEqual(word, "chain")
        self.each_stretch(SKEW, chain)
        self.assertEqual([kernel for _, _, kernel in SKEW_TOLD], [kernel for _, _, kernel in chain])
        self.assertEqual(compared(chain[0][1], SKEW_BREAK), 0)

    def test_met_just_so_at_the_middle(self):
        # The numbers 2 T - 1 and 1 - 2 T: two acts hold the lesser one, two answers get the greater one.
        case = ((((-1, 1),), ((1, -1),)), AXES, ACROSS)
        word, chain = chain_of(*case)
        self.assertEqual(word, "chain")
        self.each_stretch(case, chain)
        self.assertEqual(compared(chain[0][1], HALF_ROOT), 0)
        case = ((((-1, 1), (1, -1)),), AXES, ACROSS)
        self.assertEqual(met(game_at(*case, (1, 2)))[0], "dice")
        word, gap = chain_of(*case)
        self.assertEqual(word, "gap")
        self.each_act_is_above(case, gap)

    def test_breaks_that_two_kernels_tell_by_unlike_polys(self):
        for pays, t in (((((2, -2),), ((-1, 1),)), (1, 2)), ((((-2, -2), (1, -2)), ((-1, 2), (-1, -1))), (1, 3)),
                        ((((2, 2), (0, 1)), ((2, -2), (-2, -1)), ((-1, 1), (0, 1))), (1, 2))):
            word, chain = chain_of(pays, AXES, ACROSS)
            self.assertEqual(word, "chain")
            self.each_stretch((pays, AXES, ACROSS), chain)
            self.assertIn(0, [compared(end, at_number(t)) for _, end, _ in chain])

    def test_met_just_so_at_all_t(self):
        for pays in ((((0, 0),),), (((0, 0), (-1, -1)),), (((1, 1), (1, 1)), ((0, 0), (0, 0)))):
            word, chain = chain_of(pays, AXES, ACROSS)
            self.assertEqual(word, "chain")
            self.each_stretch((pays, AXES, ACROSS), chain)

    def test_a_narrow_gap(self):
        # The numbers 198 T - 98 and 99 - 199 T: both above nought between 49/99 and 99/199.
        case = ((((-98, 100),), ((99, -100),)), AXES, ACROSS)
        word, (t, _) = chain_of(*case)
        self.assertEqual(word, "gap")
        self.assertTrue(Fraction(49, 99) < Fraction(*t) < Fraction(99, 199))
        # A little less, and both meet just so.
        case = ((((-98, 100),), ((98, -100),)), AXES, ACROSS)
        word, chain = chain_of(*case)
        self.assertEqual(word, "chain")
        self.each_stretch(case, chain)
        self.assertEqual(compared(chain[0][1], at_number((49, 99))), 0)

    def test_not_met_at_an_end_alone(self):
        # T - 1 and such: not met at 1 or at 0 only would be a gap with met numbers close by: there is none.
        case = ((((-1, 1),),), AXES, ACROSS)
        word, gap = chain_of(*case)
        self.assertEqual(word, "gap")
        self.each_act_is_above(case, gap)
        self.assertGreater(Fraction(*gap[0]), Fraction(1, 2))
        # The number T - 1 is met just so at 1.
        case = ((((-1, 0),),), AXES, ACROSS)
        self.assertEqual(chain_of(*case), ("chain", ((NOUGHT_ROOT, UNIT_ROOT, ((0,), (0,))),)))
        # The number T is met at 0 alone.
        case = ((((0, 1),),), AXES, ACROSS)
        self.assertEqual(chain_of(*case)[0], "gap")

    def test_opposite_lines(self):
        # A turn's line that is nought at the middle.
        case = ((((1, 0),),), SINGLE_POINT, (0, 1))
        self.assertEqual(chain_of(*case)[0], "chain")
        self.assertEqual(chain_of((((2, 0),),), SINGLE_POINT, (0, 1))[0], "gap")

    def test_more_acts_never_take_a_chain_away(self):
        for pays, shape, turn in CASES[::5]:
            if len(pays) > 1 and chain_of(pays[1:], shape, turn)[0] == "chain":
                self.assertEqual(chain_of(pays, shape, turn)[0], "chain")
            if len(pays[0]) > 1 and chain_of(pays, shape, turn)[0] == "chain":
                fewer = tuple(act[1:] for act in pays)
                self.assertEqual(chain_of(fewer, shape, turn)[0], "chain")


class IsChainTest(RefusalCase):
    def taken(self, chain, case=EXAMPLE):
        self.assertIs(is_chain(*case, chain), True)

    def left(self, chain, case=EXAMPLE):
        self.assertIs(is_chain(*case, chain), False)

    def test_breaks_told_by_other_polys_and_stretches(self):
        for poly in ((-1, 2), (1, -2), (-1, 2, -1, 2), power_of((-1, 2), 3), power_of((-1, 2), 39),
                     product_of((-1, 2), (-1, 4), (-9, 10))):
            for low, high in (((0, 1), (1, 1)), ((1, 3), (3, 4)), ((49, 100), (7, 13)), ((0, 1), (3, 4))):
                root = (poly, low, high)
                if len(poly) == 4 and poly[-1] == 80 and (low, high) == ((0, 1), (1, 1)):
                    self.left(((NOUGHT_ROOT, root, BOTH), (root, UNIT_ROOT, BOTH)))
                elif poly[-1] != 80 or low != (0, 1):
                    self.taken(((NOUGHT_ROOT, root, BOTH), (root, UNIT_ROOT, BOTH)))

    def test_a_break_that_is_no_fraction(self):
        self.taken(SKEW_TOLD, SKEW)
        for poly in ((1, -4, 2), product_of((-1, 4, -2), (-1, 9)), product_of((-1, 4, -2), (-1, 2)),
                     product_of((7,), power_of((-1, 4, -2), 3), (1, 0, 1))):
            for low, high in (((0, 1), (1, 1)), ((1, 5), (1, 1)), ((2, 7), (3, 10)), ((1, 5), (3, 10))):
                root = (poly, low, high)
                right = roots_between(poly, low, high) == 1
                self.assertIs(is_chain(*SKEW, ((NOUGHT_ROOT, root, ((0,), (0,))), (root, UNIT_ROOT, BOTH))), right)
        # The second kernel meets the game from the break on, not before; the first one up to 1/2 and not beyond.
        for t in ((1, 4), (29289, 100000), (29290, 100000), (1, 3), (1, 2), (51, 100)):
            root = at_number(pair(Fraction(*t)))
            before = Fraction(*t) < Fraction(292893, 1000000)
            change = ((NOUGHT_ROOT, root, ((0,), (0,))), (root, UNIT_ROOT, BOTH))
            self.assertIs(is_chain(*SKEW, change), not before and Fraction(*t) <= Fraction(1, 2))
            self.left(((NOUGHT_ROOT, root, BOTH), (root, UNIT_ROOT, BOTH)), SKEW)
            if before:
                self.taken(((NOUGHT_ROOT, root, ((0,), (0,))), (root, SKEW_BREAK, ((0,), (0,))), SKEW_TOLD[1]), SKEW)
            else:
                self.taken((SKEW_TOLD[0], (SKEW_BREAK, root, BOTH), (root, UNIT_ROOT, BOTH)), SKEW)
        near = Fraction(1, 1) - Fraction(70710678118654752440084436210484903928483593768847, 10 ** 50)
        for far, right in ((Fraction(0), True), (Fraction(1, 10 ** 49), True), (Fraction(-1, 10 ** 49), False)):
            root = at_number(pair(near + far))
            self.assertIs(is_chain(*SKEW, ((NOUGHT_ROOT, root, ((0,), (0,))), (root, UNIT_ROOT, BOTH))), right)

    def test_breaks_a_little_away(self):
        for far in (10, 10 ** 6, 10 ** 40):
            for near in (Fraction(1, 2) - Fraction(1, far), Fraction(1, 2) + Fraction(1, far)):
                for root in (at_number(pair(near)), ((-near.numerator, near.denominator), (0, 1), (1, 1))):
                    self.left(((NOUGHT_ROOT, root, BOTH), (root, UNIT_ROOT, BOTH)))
        self.left(((NOUGHT_ROOT, UNIT_ROOT, BOTH),))

    def test_two_ways_to_tell_one_break(self):
        # TO and the next FROM must be the very same triple.
        other = ((-1, 2), (0, 1), (1, 1))
        self.left(((NOUGHT_ROOT, HALF_ROOT, BOTH), (other, UNIT_ROOT, BOTH)))
        self.left(((NOUGHT_ROOT, other, BOTH), (HALF_ROOT, UNIT_ROOT, BOTH)))
        self.left(((NOUGHT_ROOT, other, BOTH), (((-1, 2), (0, 1), (3, 4)), UNIT_ROOT, BOTH)))
        self.left(((NOUGHT_ROOT, other, BOTH), (((1, -2), (0, 1), (1, 1)), UNIT_ROOT, BOTH)))
        # No stretch of a single number.
        self.left(((NOUGHT_ROOT, HALF_ROOT, BOTH), (HALF_ROOT, other, BOTH), (other, UNIT_ROOT, BOTH)))
        self.left(((NOUGHT_ROOT, HALF_ROOT, BOTH), (HALF_ROOT, HALF_ROOT, BOTH), (HALF_ROOT, UNIT_ROOT, BOTH)))
        self.left(((NOUGHT_ROOT, NOUGHT_ROOT, BOTH),) + TOLD)
        self.left(TOLD + ((UNIT_ROOT, UNIT_ROOT, BOTH),))

    def test_stretches_cut_once_more(self):
        third, near = at_number((1, 3)), ((-1, 0, 2), (2, 3), (3, 4))
        self.taken(((NOUGHT_ROOT, third, BOTH), (third, HALF_ROOT, BOTH), TOLD[1]))
        self.taken((TOLD[0], (HALF_ROOT, near, BOTH), (near, UNIT_ROOT, BOTH)))
        wide = ((-1, 3), (0, 1), (1, 1))
        self.taken(((NOUGHT_ROOT, wide, BOTH), (wide, HALF_ROOT, BOTH), TOLD[1]))
        # Back and forth is no way from 0 to 1.
        self.left((TOLD[0], (HALF_ROOT, third, BOTH), (third, UNIT_ROOT, BOTH)))
        self.left(((NOUGHT_ROOT, third, BOTH), (third, NOUGHT_ROOT, BOTH)) + TOLD)
        self.left(((NOUGHT_ROOT, HALF_ROOT, BOTH), (HALF_ROOT, wide, BOTH), (wide, UNIT_ROOT, BOTH)))

    def test_cut_between_at_any_fraction(self):
        for case in CASES[::7]:
            word, chain = chain_of(*case)
            if word == "chain":
                for place, (start, end, kernel) in enumerate(chain):
                    root = at_number(between(start, end))
                    more = ((start, root, kernel), (root, end, kernel))
                    self.taken(chain[:place] + more + chain[place + 1:], case)

    def test_triples_left_out_put_twice_or_in_another_order(self):
        for case, chain in ((EXAMPLE, TOLD), (SKEW, SKEW_TOLD)):
            for other in ((), chain[:1], chain[1:], chain[::-1], chain * 2, chain + chain[1:], chain[:1] + chain):
                self.left(other, case)
            self.taken(chain, case)
        longer = [(case, chain_of(*case)[1]) for case in CASES if chain_of(*case)[0] == "chain"]
        longer = [(case, chain) for case, chain in longer if len(chain) > 2]
        self.assertGreater(len(longer), 5)
        for case, chain in longer:
            for place in range(len(chain)):
                self.left(chain[:place] + chain[place + 1:], case)
                self.left(chain[:place + 1] + chain[place:], case)
            self.left(chain[1:] + chain[:1], case)
            self.left(chain[::-1], case)

    def test_kernels_exchanged(self):
        self.left(((NOUGHT_ROOT, SKEW_BREAK, BOTH), (SKEW_BREAK, UNIT_ROOT, ((0,), (0,)))), SKEW)
        for kernel in (((0,), (0,)), ((0,), (1,)), ((1,), (0,)), ((1,), (1,))):
            self.left((TOLD[0], (HALF_ROOT, UNIT_ROOT, kernel)))
            self.left(((NOUGHT_ROOT, HALF_ROOT, kernel), TOLD[1]))
        # Of these kernels each one meets on one side alone.
        case = ((((-1, 1),), ((1, -1),)), AXES, ACROSS)
        first, second = ((0,), (0,)), ((1,), (0,))
        self.taken(((NOUGHT_ROOT, HALF_ROOT, first), (HALF_ROOT, UNIT_ROOT, second)), case)
        for one, other in ((second, first), (first, first), (second, second)):
            self.left(((NOUGHT_ROOT, HALF_ROOT, one), (HALF_ROOT, UNIT_ROOT, other)), case)

    def test_sums_of_answers_outside_of_the_kernel_count(self):
        # The first act's answers: T - 1 always meets, 2 T - 1 only up to 1/2.
        case = ((((-1, 0), (-1, 1)),), AXES, ACROSS)
        self.left(((NOUGHT_ROOT, UNIT_ROOT, ((0,), (0,))),), case)
        case = ((((-1, 0), (-1, -1)),), AXES, ACROSS)
        self.taken(((NOUGHT_ROOT, UNIT_ROOT, ((0,), (0,))),), case)
        self.taken(((NOUGHT_ROOT, UNIT_ROOT, ((0,), (1,))),), case)
        # A sum that is 0 just once between is a break, though the game is met on both sides.
        case = ((((-1, 1),), ((1, -1),), ((-1, -1),)), AXES, ACROSS)
        self.taken(((NOUGHT_ROOT, UNIT_ROOT, ((2,), (0,))),), case)
        case = ((((0, -3),), ((-3, 0),)), AXES, ACROSS)
        self.taken(((NOUGHT_ROOT, UNIT_ROOT, ((0,), (0,))),), case)

    def test_a_game_met_on_both_sides_of_a_root_of_its_kernel(self):
        # One answer, numbers nought throughout; the kernel's sum of the other answer touches 0 at 1/2.
        pays = (((1, -1), (-1, 1)), ((-1, 1), (1, -1)))
        case = (pays, AXES, ACROSS)
        self.assertEqual(chain_of(*case)[0], "chain")
        self.left(((NOUGHT_ROOT, UNIT_ROOT, BOTH),), case)
        self.taken(TOLD, case)

    def test_all_nought(self):
        case = ((((0, 0), (0, 0)), ((0, 0), (0, 0))), AXES, ACROSS)
        for kernel in (((0,), (0,)), ((0,), (1,)), ((1,), (0,)), ((1,), (1,))):
            self.taken(((NOUGHT_ROOT, UNIT_ROOT, kernel),), case)
        # Weights that are nought throughout tell no dice.
        self.left(((NOUGHT_ROOT, UNIT_ROOT, BOTH),), case)

    def test_two_thousand_triples_and_no_more(self):
        case = (EXAMPLE_PAYS, CORNER, (0, 0))
        for many, right in ((1999, True), (2000, True), (2001, False)):
            ends = [NOUGHT_ROOT] + [at_number(pair(Fraction(place, many))) for place in range(1, many)] + [UNIT_ROOT]
            chain = tuple((start, end, BOTH) for start, end in zip(ends, ends[1:]))
            self.assertEqual(len(chain), many)
            self.assertIs(is_chain(*case, chain), right)
        broken = ((chain[0][0], chain[1][1], ((0,), (0,))),) + chain[2:]
        self.left(broken, case)

    def test_forty_one_things_and_no_more(self):
        for many, right in ((39, True), (41, False)):
            poly = power_of((-1, 2), many)
            root = (poly, (0, 1), (1, 1))
            self.assertIs(is_chain(*EXAMPLE, ((NOUGHT_ROOT, root, BOTH), (root, UNIT_ROOT, BOTH))), right)
        poly = product_of((1, 1), power_of((-1, 2), 39))
        self.assertEqual(len(poly), 41)
        root = (poly, (0, 1), (1, 1))
        self.taken(((NOUGHT_ROOT, root, BOTH), (root, UNIT_ROOT, BOTH)))

    def test_great_integers(self):
        factor = 10 ** 300 + 7
        root = ((-factor, 2 * factor), pair(Fraction(1, 2) - Fraction(1, factor)), pair(Fraction(1, 2) + Fraction(1, factor)))
        self.taken(((NOUGHT_ROOT, root, BOTH), (root, UNIT_ROOT, BOTH)))
        near = pair(Fraction(1, 2) + Fraction(1, factor))
        root = ((-near[0], near[1]), (0, 1), (1, 1))
        self.left(((NOUGHT_ROOT, root, BOTH), (root, UNIT_ROOT, BOTH)))

    def test_what_is_no_root(self):
        for value in NO_ROOTS:
            self.left(((NOUGHT_ROOT, value, BOTH), (value, UNIT_ROOT, BOTH)))
            self.left(((value, HALF_ROOT, BOTH), TOLD[1]))
            self.left((TOLD[0], (HALF_ROOT, value, BOTH)))
            self.left(((value, value, BOTH),))
            self.left((TOLD[0], (value, UNIT_ROOT, BOTH)))

    def test_what_is_no_kernel(self):
        case = (UNEVEN_PAYS, ((1, 0, 100),), (0, 0))
        self.taken(((NOUGHT_ROOT, UNIT_ROOT, ((0,), (0,))),), case)
        for value in NO_KERNELS:
            self.left(((NOUGHT_ROOT, UNIT_ROOT, value),), case)

    def test_what_is_no_chain_at_all(self):
        for value in OTHER_KINDS + (1, TOLD[0], list(TOLD), (TOLD,), [TOLD[0], TOLD[1]], ("chain", TOLD)):
            self.left(value)
        for value in OTHER_KINDS + (1, TOLD[1][:2], TOLD[1] + (None,), list(TOLD[1])):
            self.left((TOLD[0], value))
            self.left((value, TOLD[1]))
        # What equals the ends as Python compares is not yet a ROOT.
        false_end, true_end = ((), (False, 1), (0, 1)), ((), (1, 1), (1, True))
        self.left(((false_end, HALF_ROOT, BOTH), TOLD[1]))
        self.left((TOLD[0], (HALF_ROOT, true_end, BOTH)))
        self.left((TOLD[0], (((), (1, 2), (True, 2)), UNIT_ROOT, BOTH)))
        self.left((TOLD[0], (HALF_ROOT, UNIT_ROOT, ((False, True), (0, 1)))))
        self.left((TOLD[0], (((), (1, 2), (1, 2.0)), UNIT_ROOT, BOTH)))
        for strange in (Strange(), deep_tuple()):
            self.left((TOLD[0], (HALF_ROOT, UNIT_ROOT, (strange, (0, 1)))))
            self.left((TOLD[0], ((strange, (1, 2), (1, 2)), UNIT_ROOT, BOTH)))

    def test_another_shape_or_turn(self):
        self.left(TOLD, (EXAMPLE_PAYS, AXES, ACROSS))
        self.taken(TOLD, (EXAMPLE_PAYS, CORNER, (0, 0)))
        self.left(TOLD, ((((0, 1), (1, 0)),), CORNER, ACROSS))


class IsGapTest(RefusalCase):
    CASE = ((((-1, 1), (1, -1)),), AXES, ACROSS)

    def test_by_hand(self):
        # The numbers of the only act are 2 T - 1 and 1 - 2 T.
        for t, odds, right in (
            ((0, 1), ((0, 1), (1, 1)), True), ((0, 1), ((1, 1), (0, 1)), False), ((0, 1), ((1, 2), (1, 2)), False),
            ((0, 1), ((1, 3), (2, 3)), True), ((1, 1), ((1, 1), (0, 1)), True), ((1, 1), ((0, 1), (1, 1)), False),
            ((1, 2), ((1, 1), (0, 1)), False), ((1, 2), ((0, 1), (1, 1)), False), ((1, 3), ((0, 1), (1, 1)), True),
            ((10 ** 40 + 1, 2 * 10 ** 40), ((1, 1), (0, 1)), True), ((10 ** 40 - 1, 2 * 10 ** 40), ((1, 1), (0, 1)), False),
        ):
            t = pair(Fraction(*t))
            self.assertIs(is_gap(*self.CASE, (t, odds)), right)

    def test_each_act_must_be_above(self):
        # By equal odds both acts come to 0; one act more that is above does not help.
        case = ((((1, 1), (1, 1)), ((0, 0), (0, 0))), AXES, ACROSS)
        self.assertIs(is_gap(*case, ((1, 2), ((1, 2), (1, 2)))), False)
        case = ((((1, 1), (1, 1)), ((1, 0), (1, 0))), AXES, ACROSS)
        self.assertIs(is_gap(*case, ((1, 2), ((1, 2), (1, 2)))), True)
        self.assertIs(is_gap(*case, ((1, 1), ((1, 2), (1, 2)))), False)

    def test_what_is_no_gap(self):
        right = ((0, 1), ((0, 1), (1, 1)))
        self.assertIs(is_gap(*self.CASE, right), True)
        for value in OTHER_KINDS + (1, right[:1], right + (None,), list(right), right[::-1], ("gap", right)):
            self.assertIs(is_gap(*self.CASE, value), False)
        for value in NO_PARTS:
            self.assertIs(is_gap(*self.CASE, (value, right[1])), False)
        for value in NO_HALVES:
            self.assertIs(is_gap(*self.CASE, (right[0], value)), False)

    def test_no_gap_where_there_is_a_chain(self):
        for case in CASES[::25]:
            if chain_of(*case)[0] == "chain":
                answers = len(case[0][0])
                for t in FRACTIONS[::4]:
                    self.assertIs(is_gap(*case, (pair(t), ((1, answers),) * answers)), False)
                    self.assertIs(is_gap(*case, (pair(t), worth(game_at(*case, pair(t)))[2])), False)


class WrongParametersTest(RefusalCase):
    """Pays, then the shape, then the turn; a judge refuses no value."""

    CALLS = ((chain_of, ()), (is_chain, (TOLD,)), (is_gap, (((0, 1), ((0, 1), (1, 1))),)))

    def test_wrong_pays(self):
        for call, more in self.CALLS:
            for place, value in NO_PAYS:
                self.refused_place(place, BadPays, call, value, CORNER, ACROSS, *more)
            for place, value in NO_PAYS[::40]:
                self.refused_place(place, BadPays, call, value, None, None, *more)

    def test_wrong_shapes(self):
        for call, more in self.CALLS:
            for place, value in NO_SHAPES:
                self.refused_place(place, BadShape, call, EXAMPLE_PAYS, value, ACROSS, *more)
            for place, value in NO_SHAPES[::40]:
                self.refused_place(place, BadShape, call, EXAMPLE_PAYS, value, None, *[None for _ in more])

    def test_wrong_turns(self):
        for call, more in self.CALLS:
            self.each_refused(BadParameter, NO_TURNS + ((0, 2), (2, 2), (1, 2)), call, [*EXAMPLE[:2], None, *more], 2)
            self.each_refused(BadParameter, NO_TURNS, call, [*EXAMPLE[:2], None, *[None for _ in more]], 2)

    def test_pairs_of_lines_that_are_no_turns(self):
        for shape in SHAPES[::12]:
            for turn in ((one, other) for one in range(len(shape)) for other in range(len(shape))):
                if turn not in own_turns(shape):
                    self.refused_value(BadParameter, turn, is_chain, EXAMPLE_PAYS, shape, turn, TOLD)


class RootsOfKernelsTest(unittest.TestCase):
    def test_breaks_of_chains_are_roots_of_their_kernels(self):
        for case in CASES[::3]:
            word, chain = chain_of(*case)
            if word == "chain":
                for (_, end, kernel), (_, _, following) in zip(chain, chain[1:]):
                    polys = [poly for which in (kernel, following) for polys in kernel_polys(*case, which)
                             for poly in polys if poly]
                    roots = [root for poly in polys for root in roots_of(poly)]
                    self.assertIn(0, [compared(root, end) for root in roots])


if __name__ == "__main__":
    unittest.main()
