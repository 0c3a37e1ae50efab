"""Chains: kernels that meet a turn's game all the way from 0 to 1; gaps: where it isn't met."""

from withinshapes.fractions import NOUGHT, UNIT, is_part
from withinshapes.games import is_met, met
from withinshapes.kinds import is_pair, is_row
from withinshapes.roots import all_roots, exactly, first_between, has_root_form, is_root, order_of, side_of
from withinshapes.squares import is_kernel, kernels_of, meets_rows
from withinshapes.turns import check_turn, game_of_rows, game_on_way, polys_of, rows_at

MOST_TRIPLES = 2000


def own_roots(game, kernel):
    """The ROOTs of a kernel's weights and sums, those apart that are nought throughout."""
    weights, sums = polys_of(game, kernel)
    # A constant has no root, and alike polynomials have the same ones.
    polys = sorted({poly for poly in weights + sums if len(poly) > 1})
    return [root for poly in polys for root in all_roots(poly)]


def around(roots, start, end, t):
    """The stretch within (start, end) up to the ROOTs on both sides of t, None if one of them is t."""
    for root in roots:
        side = side_of(root, t)
        if side == 0:
            return None
        if side < 0 and order_of(start, root) < 0:
            start = root
        if side > 0 and order_of(root, end) < 0:
            end = root
    return (start, end)


def cover_at(game, start, end, t):
    """(FROM, TO, KERNEL) of the first kernel that meets the game on a stretch with t in it, None if none does."""
    rows = rows_at(game, t)
    for kernel in kernels_of(len(game), len(game[0])):
        if meets_rows(rows, kernel):
            stretch = around(own_roots(game, kernel), start, end, t)
            if stretch is not None:
                return (stretch[0], stretch[1], kernel)
    return None


def game_for(game, t):
    """The GAME of FRACTIONs of a turn's game at t."""
    return game_of_rows(rows_at(game, t), t)


def piece_of(game, start, end):
    """("chain", (FROM, TO, KERNEL)) with a triple within the stretch, or ("gap", (T, ODDS))."""
    t = first_between(start, end)
    while True:
        cover = cover_at(game, start, end, t)
        if cover is not None:
            return ("chain", cover)
        word, odds = met(game_for(game, t))
        if word == "odds":
            return ("gap", (t, odds))
        # The game is met at t, but only by kernels with a root there; of those there are finitely many.
        t = first_between(start, exactly(t))


def chain_in(game):
    """("chain", CHAIN) or ("gap", (T, ODDS)) of a turn's game."""
    done = []
    # Stretches that are open have no kernel yet.
    waiting = [(exactly(NOUGHT), exactly(UNIT), None)]
    while waiting:
        start, end, kernel = waiting.pop()
        if kernel is not None:
            done.append((start, end, kernel))
            continue
        word, found = piece_of(game, start, end)
        if word == "gap":
            return (word, found)
        # What stands first is looked at first, so that all that is done stands in order.
        if found[1] != end:
            waiting.append((found[1], end, None))
        waiting.append(found)
        if found[0] != start:
            waiting.append((start, found[0], None))
    return ("chain", tuple(done))


def chain_of(pays, shape, turn):
    """("chain", CHAIN) if the turn's game is met at all T, else ("gap", (T, ODDS))."""
    check_turn(pays, shape, turn)
    return chain_in(game_on_way(pays, shape, turn))


def is_linked(value, acts, answers):
    """Whether a value is a tuple of triples with ROOTs and KERNELs, each from where the one ahead of it ends."""
    if not is_row(value, 1, MOST_TRIPLES):
        return False
    reached = exactly(NOUGHT)
    for part in value:
        if not is_row(part, 3, 3):
            return False
        start, end, kernel = part
        if not has_root_form(start) or start != reached:
            return False
        if not is_root(end) or not is_kernel(kernel, acts, answers):
            return False
        reached = end
    return reached == exactly(UNIT)


def is_covered(game, part, roots):
    """Whether a triple's kernel, with these ROOTs of its own, meets the game all the way between both ends."""
    start, end, kernel = part
    if order_of(start, end) >= 0:
        return False
    if any([order_of(start, root) < 0 and order_of(root, end) < 0 for root in roots]):
        return False
    return meets_rows(rows_at(game, first_between(start, end)), kernel)


def is_chain_in(game, value):
    """Whether a value is a CHAIN for a turn's game."""
    if not is_linked(value, len(game), len(game[0])):
        return False
    known = {}
    for part in value:
        kernel = part[2]
        if kernel not in known:
            known[kernel] = own_roots(game, kernel)
        if not is_covered(game, part, known[kernel]):
            return False
    return True


def is_chain(pays, shape, turn, value):
    """Whether a value is a CHAIN for the turn."""
    check_turn(pays, shape, turn)
    return is_chain_in(game_on_way(pays, shape, turn), value)


def is_gap_in(game, value):
    """Whether a value is (T, ODDS) by which each act's sum in a turn's game at T is above nought."""
    if not is_pair(value) or not is_part(value[0]):
        return False
    t, odds = value
    return is_met(game_for(game, t), ("odds", odds))


def is_gap(pays, shape, turn, value):
    """Whether a value is (T, ODDS) that shows that the turn's game isn't met at T."""
    check_turn(pays, shape, turn)
    return is_gap_in(game_on_way(pays, shape, turn), value)
