"""Promise 1: everything stands under its name, in its file, with its parameters."""

import ast
import inspect
import unittest
from importlib import import_module
from pathlib import Path

FOLDER = Path(__file__).resolve().parent.parent / "withinshapes"

FUNCTIONS = {
    "fractions": {
        "need_fraction": ["value"],
        "fraction": ["above", "below"],
        "plus": ["one", "other"],
        "minus": ["one", "other"],
        "times": ["one", "other"],
        "over": ["one", "other"],
        "less": ["one", "other"],
    },
    "points": {
        "need_point": ["point"],
        "point_plus": ["one", "other"],
        "point_times": ["point", "factor"],
        "squared": ["one", "other"],
        "mean_of": ["points"],
        "need_pays": ["pays"],
        "need_dice": ["pays", "dice"],
        "need_odds": ["pays", "odds"],
        "pay_of": ["pays", "dice", "answer"],
        "pay_by": ["pays", "dice", "odds"],
        "greatest_gap": ["pays"],
    },
    "shapes": {
        "need_shape": ["shape"],
        "lets": ["shape", "point"],
        "tight": ["shape", "point"],
        "no_point": ["lines"],
        "is_no_point": ["lines", "value"],
        "corners": ["shape"],
        "is_bounded": ["shape"],
    },
    "ends": {
        "greatest_along": ["shape", "a", "b"],
        "nearest": ["shape", "point"],
        "squared_from": ["shape", "point"],
        "idle_lines": ["shape"],
        "same_points": ["shape", "other"],
        "widened": ["shape", "more"],
    },
    "games": {
        "need_game": ["game"],
        "sums_by": ["game", "dice"],
        "sums_of": ["game", "odds"],
        "worth": ["game"],
        "is_worth": ["game", "value"],
        "met": ["game"],
        "is_met": ["game", "value"],
        "turned_game": ["game"],
        "bare_game": ["game"],
    },
    "squares": {
        "kernels": ["acts", "answers"],
        "kernel_dice": ["game", "kernel"],
        "first_kernel": ["game"],
    },
    "polys": {
        "need_poly": ["poly"],
        "poly_plus": ["one", "other"],
        "poly_minus": ["one", "other"],
        "poly_times": ["one", "other"],
        "poly_at": ["poly", "t"],
        "slope_of": ["poly"],
        "parted_by": ["one", "other"],
        "common_part": ["one", "other"],
        "plain_part": ["poly"],
        "sturm_row": ["poly"],
        "changes_at": ["poly", "t"],
        "roots_between": ["poly", "low", "high"],
    },
    "roots": {
        "need_root": ["root"],
        "roots_of": ["poly"],
        "halved": ["root"],
        "compared": ["one", "other"],
        "sign_at": ["poly", "root"],
        "between": ["one", "other"],
    },
    "turns": {
        "turns": ["shape"],
        "turning": ["pays", "shape", "turn"],
        "game_at": ["pays", "shape", "turn", "t"],
        "kernel_polys": ["pays", "shape", "turn", "kernel"],
        "kernel_meets": ["pays", "shape", "turn", "kernel", "t"],
    },
    "chains": {
        "chain_of": ["pays", "shape", "turn"],
        "is_chain": ["pays", "shape", "turn", "value"],
        "is_gap": ["pays", "shape", "turn", "value"],
    },
    "leading": {
        "is_led": ["pays", "shape"],
        "lead": ["pays", "shape"],
        "is_lead": ["pays", "shape", "value"],
        "is_border_of": ["shape", "value"],
        "wall_of": ["pays", "shape", "turn", "gap"],
        "led_lines": ["pays", "shape"],
        "led_turns": ["pays", "shape"],
        "least_part": ["pays", "shape"],
    },
    "steering": {
        "exact_dice": ["pays", "shape", "mean"],
        "is_pulled": ["pays", "shape", "mean", "value"],
        "rounded": ["dice", "rounds"],
        "steered": ["pays", "shape", "answers"],
        "steered_late": ["pays", "shape", "answers", "late"],
        "guarantee": ["pays", "rounds", "late"],
        "is_steering": ["pays", "shape", "answers", "value"],
    },
    "keeping": {
        "paper_margin": ["pays", "paper"],
        "kept_answer": ["pays", "paper", "dice"],
        "kept_row": ["pays", "paper", "dices"],
        "mean_by_odds": ["pays", "odds", "dices"],
    },
    "against": {
        "dice_against": ["pays", "shape", "odds"],
        "is_against": ["pays", "shape", "odds", "value"],
    },
    "heights": {
        "height": ["pays", "a", "b"],
        "is_height": ["pays", "a", "b", "value"],
        "heights": ["pays"],
    },
    "widening": {
        "least_widening": ["pays", "shape"],
        "is_least_widening": ["pays", "shape", "value"],
        "least_push": ["pays", "shape", "number"],
        "is_least_push": ["pays", "shape", "number", "value"],
    },
    "made": {
        "mapped": ["pays", "matrix"],
        "mapped_shape": ["shape", "matrix"],
        "moved": ["pays", "shift"],
        "moved_shape": ["shape", "shift"],
        "either_acts": ["pays", "other"],
        "either_answers": ["pays", "other"],
        "some_acts": ["pays", "lot"],
        "some_answers": ["pays", "lot"],
        "both_shapes": ["shape", "other"],
        "some_lines": ["shape", "lot"],
    },
    "several": {
        "need_several": ["several"],
        "all_led": ["several", "shape"],
        "is_all_led": ["several", "shape", "value"],
        "by_turns": ["several", "shape", "rounds"],
        "regrets": ["wishes"],
        "regret_shape": [],
        "while_shape": ["least", "most"],
    },
    "texts": {
        "need_chain": ["chain"],
        "need_paper": ["paper"],
        "pays_text": ["pays"],
        "read_pays": ["text"],
        "shape_text": ["shape"],
        "read_shape": ["text"],
        "chain_text": ["chain"],
        "read_chain": ["text"],
        "paper_text": ["paper"],
        "read_paper": ["text"],
    },
    "sessions": {
        "begun": ["pays", "shape"],
        "need_state": ["state"],
        "session_step": ["state", "deed"],
        "played": ["pays", "shape", "deeds"],
    },
}

# Files that the interface names without anything for users.
OTHER_FILES = ("errors", "search", "wording")

PAYS = (((0, 1), (1, 0)), ((1, 0), (0, 1)))
HALVES = ((1, 2), (1, 2))
POINT = ((1, 2), (0, 1))
SHAPE = ((2, 0, 1), (0, 2, 1))
AT_CORNER = ((1, 2), (1, 2))
APART = ((1, 0, 0), (-1, 0, -1))
GAME = (((1, 1), (-1, 1)), ((-1, 1), (1, 1)))
KERNEL = ((0, 1), (0, 1))
POLY = (-1, 0, 2)
ROOT = (POLY, (0, 1), (1, 1))
UPPER = (POLY, (1, 2), (1, 1))
END = ((), (1, 1), (1, 1))
TURN = (0, 1)
TURNING = {"pays": PAYS, "shape": SHAPE, "turn": TURN}
LEFT = ((1, 0, 0),)
CHAIN = ((((), (0, 1), (0, 1)), END, KERNEL),)
SINGLE_CHAIN = ((((), (0, 1), (0, 1)), END, ((0,), (0,))),)
GAP = ((0, 1), HALVES)
PAPER = ((1, 0, 0), HALVES)
FIRST = ((1, 1), (0, 1))
LAST = ((0, 1), (1, 1))
MATRIX = ((0, 1), (-2, 0))
OUT = ((2, 0, 0), HALVES)
SEVERAL = (PAYS, (((0, 1),), ((1, 0),)))
PAYS_TEXT = "pays {\n  act { 0 1 1 0 }\n  act { 1 0 0 1 }\n}"
SHAPE_TEXT = "shape {\n  line 2 0 1\n  line 0 2 1\n}"
CHAIN_TEXT = "chain {\n  part at 0 at 1 { 0 1 } { 0 1 }\n}"
STATE = (PAYS, SHAPE, (0,), ((SHAPE, ()),))

CALLS = (
    ("fractions", "need_fraction", {"value": (1, 2)}, (1, 2)),
    ("fractions", "fraction", {"above": 2, "below": 4}, (1, 2)),
    ("fractions", "plus", {"one": (1, 2), "other": (1, 3)}, (5, 6)),
    ("fractions", "minus", {"one": (1, 2), "other": (1, 3)}, (1, 6)),
    ("fractions", "times", {"one": (1, 2), "other": (1, 3)}, (1, 6)),
    ("fractions", "over", {"one": (1, 2), "other": (1, 3)}, (3, 2)),
    ("fractions", "less", {"one": (1, 2), "other": (1, 3)}, False),
    ("points", "need_point", {"point": POINT}, POINT),
    ("points", "point_plus", {"one": POINT, "other": POINT}, ((1, 1), (0, 1))),
    ("points", "point_times", {"point": POINT, "factor": (1, 2)}, ((1, 4), (0, 1))),
    ("points", "squared", {"one": POINT, "other": ((0, 1), (0, 1))}, (1, 4)),
    ("points", "mean_of", {"points": (POINT, ((0, 1), (1, 1)))}, ((1, 4), (1, 2))),
    ("points", "need_pays", {"pays": PAYS}, PAYS),
    ("points", "need_dice", {"pays": PAYS, "dice": HALVES}, HALVES),
    ("points", "need_odds", {"pays": PAYS, "odds": HALVES}, HALVES),
    ("points", "pay_of", {"pays": PAYS, "dice": HALVES, "answer": 1}, HALVES),
    ("points", "pay_by", {"pays": PAYS, "dice": HALVES, "odds": HALVES}, HALVES),
    ("points", "greatest_gap", {"pays": PAYS}, 2),
    ("shapes", "need_shape", {"shape": SHAPE}, SHAPE),
    ("shapes", "lets", {"shape": SHAPE, "point": POINT}, True),
    ("shapes", "tight", {"shape": SHAPE, "point": POINT}, (0,)),
    ("shapes", "no_point", {"lines": APART}, ((0, 1), (1, 1))),
    ("shapes", "is_no_point", {"lines": APART, "value": ((0, 1), (1, 1))}, True),
    ("shapes", "corners", {"shape": SHAPE}, (AT_CORNER,)),
    ("shapes", "is_bounded", {"shape": SHAPE}, False),
    ("ends", "greatest_along", {"shape": SHAPE, "a": 2, "b": 1}, (3, 2)),
    ("ends", "nearest", {"shape": SHAPE, "point": ((1, 1), (0, 1))}, POINT),
    ("ends", "squared_from", {"shape": SHAPE, "point": ((1, 1), (0, 1))}, (1, 4)),
    ("ends", "idle_lines", {"shape": SHAPE + ((1, 1, 1),)}, (2,)),
    ("ends", "same_points", {"shape": SHAPE, "other": SHAPE[:1]}, False),
    ("ends", "widened", {"shape": SHAPE, "more": (1, 2)}, ((4, 0, 3), (0, 4, 3))),
    ("games", "need_game", {"game": GAME}, GAME),
    ("games", "sums_by", {"game": GAME, "dice": ((1, 1), (0, 1))}, ((1, 1), (-1, 1))),
    ("games", "sums_of", {"game": GAME, "odds": ((0, 1), (1, 1))}, ((-1, 1), (1, 1))),
    ("games", "worth", {"game": GAME}, ((0, 1), HALVES, HALVES)),
    ("games", "is_worth", {"game": GAME, "value": ((0, 1), HALVES, HALVES)}, True),
    ("games", "met", {"game": GAME}, ("dice", HALVES)),
    ("games", "is_met", {"game": GAME, "value": ("dice", HALVES)}, True),
    ("games", "turned_game", {"game": (((1, 1), (2, 3)),)}, (((-1, 1),), ((-2, 3),))),
    ("games", "bare_game", {"game": (((1, 1), (2, 3)),)}, ((0,), (0,), (((1, 1),),))),
    ("squares", "kernels", {"acts": 1, "answers": 2}, (((0,), (0,)), ((0,), (1,)))),
    ("squares", "kernel_dice", {"game": GAME, "kernel": KERNEL}, HALVES),
    ("squares", "first_kernel", {"game": GAME}, KERNEL),
    ("polys", "need_poly", {"poly": POLY}, POLY),
    ("polys", "poly_plus", {"one": POLY, "other": (1, 0, -2)}, ()),
    ("polys", "poly_minus", {"one": POLY, "other": (1, 0, 2)}, (-2,)),
    ("polys", "poly_times", {"one": POLY, "other": (0, 1)}, (0, -1, 0, 2)),
    ("polys", "poly_at", {"poly": POLY, "t": (1, 2)}, (-1, 2)),
    ("polys", "slope_of", {"poly": POLY}, (0, 4)),
    ("polys", "parted_by", {"one": POLY, "other": (1, 3)}, ((-2, 6), (-7,), 9)),
    ("polys", "common_part", {"one": POLY, "other": (0, 2, 0, -4)}, POLY),
    ("polys", "plain_part", {"poly": (-1, 0, 4, 0, -4)}, (1, 0, -2)),
    ("polys", "sturm_row", {"poly": POLY}, (POLY, (0, 1), (1,))),
    ("polys", "changes_at", {"poly": POLY, "t": (0, 1)}, 1),
    ("polys", "roots_between", {"poly": POLY, "low": (0, 1), "high": (1, 1)}, 1),
    ("roots", "need_root", {"root": ROOT}, ROOT),
    ("roots", "roots_of", {"poly": POLY}, (ROOT,)),
    ("roots", "halved", {"root": ROOT}, UPPER),
    ("roots", "compared", {"one": ROOT, "other": UPPER}, 0),
    ("roots", "sign_at", {"poly": (-3, 4), "root": ROOT}, -1),
    ("roots", "between", {"one": ROOT, "other": END}, (3, 4)),
    ("turns", "turns", {"shape": SHAPE}, ((0, 0), TURN, (1, 1))),
    ("turns", "turning", TURNING, (((-1, 2), (1, -2)), ((1, -2), (-1, 2)))),
    ("turns", "game_at", {**TURNING, "t": (1, 4)}, (((-1, 2), (1, 2)), ((1, 2), (-1, 2)))),
    ("turns", "kernel_polys", {**TURNING, "kernel": KERNEL}, (((-2, 4), (-2, 4)), ((), ()))),
    ("turns", "kernel_meets", {**TURNING, "kernel": KERNEL, "t": (1, 4)}, True),
    ("chains", "chain_of", {"pays": PAYS, "shape": SHAPE, "turn": (0, 0)}, ("chain", CHAIN)),
    ("chains", "is_chain", {"pays": PAYS, "shape": SHAPE, "turn": (0, 0), "value": CHAIN}, True),
    ("chains", "is_gap", {"pays": PAYS, "shape": LEFT, "turn": (0, 0), "value": GAP}, True),
    ("leading", "is_led", {"pays": PAYS, "shape": SHAPE}, True),
    ("leading", "lead", {"pays": PAYS, "shape": SHAPE[:1]}, ("led", (CHAIN,))),
    ("leading", "is_lead", {"pays": PAYS, "shape": SHAPE[:1], "value": ("led", (CHAIN,))}, True),
    ("leading", "is_border_of", {"shape": SHAPE, "value": (1, 1, 1)}, True),
    ("leading", "wall_of", {"pays": PAYS, "shape": LEFT, "turn": (0, 0), "gap": GAP}, PAPER),
    ("leading", "led_lines", {"pays": PAYS, "shape": SHAPE}, (0, 1)),
    ("leading", "led_turns", {"pays": PAYS, "shape": SHAPE}, ((0, 0), TURN, (1, 1))),
    ("leading", "least_part", {"pays": PAYS, "shape": LEFT}, (0,)),
    ("steering", "exact_dice", {"pays": PAYS, "shape": SHAPE, "mean": LAST}, HALVES),
    ("steering", "is_pulled", {"pays": PAYS, "shape": SHAPE, "mean": LAST, "value": HALVES}, True),
    ("steering", "rounded", {"dice": ((1, 3), (2, 3)), "rounds": 1}, ((1, 4), (3, 4))),
    ("steering", "steered", {"pays": PAYS, "shape": SHAPE, "answers": (0, 0)},
     ((FIRST, HALVES), (LAST, ((1, 4), (3, 4))))),
    ("steering", "steered_late", {"pays": PAYS, "shape": SHAPE, "answers": (0, 0), "late": 1},
     ((FIRST, FIRST), (LAST, LAST))),
    ("steering", "guarantee", {"pays": PAYS, "rounds": 3, "late": 1}, (6, 1)),
    ("steering", "is_steering", {"pays": PAYS, "shape": SHAPE, "answers": (0, 0), "value": (FIRST, HALVES)}, True),
    ("keeping", "paper_margin", {"pays": PAYS, "paper": PAPER}, (1, 2)),
    ("keeping", "kept_answer", {"pays": PAYS, "paper": PAPER, "dice": FIRST}, 1),
    ("keeping", "kept_row", {"pays": PAYS, "paper": PAPER, "dices": (FIRST, LAST)}, ((1, 0), (FIRST, FIRST))),
    ("keeping", "mean_by_odds", {"pays": PAYS, "odds": HALVES, "dices": (FIRST, LAST)}, HALVES),
    ("against", "dice_against", {"pays": PAYS, "shape": LEFT, "odds": HALVES}, ("wall", (1, 0, 0))),
    ("against", "is_against", {"pays": PAYS, "shape": SHAPE, "odds": FIRST, "value": ("dice", HALVES)}, True),
    ("heights", "height", {"pays": PAYS, "a": 2, "b": 0}, ((1, 1), HALVES, HALVES)),
    ("heights", "is_height", {"pays": PAYS, "a": 0, "b": 2, "value": ((1, 1), HALVES, HALVES)}, True),
    ("heights", "heights", {"pays": PAYS}, ((1, 2), (1, 2), (-1, 2), (-1, 2))),
    ("widening", "least_widening", {"pays": PAYS, "shape": ((2, 0, 0),)}, (1, (CHAIN,), OUT)),
    ("widening", "is_least_widening", {"pays": PAYS, "shape": ((2, 0, 0),), "value": (1, (CHAIN,), OUT)}, True),
    ("widening", "least_push", {"pays": PAYS, "shape": ((2, 0, 9),), "number": 0}, (1, (CHAIN,), OUT)),
    ("widening", "is_least_push", {"pays": PAYS, "shape": ((2, 0, 9),), "number": 0, "value": (1, (CHAIN,), OUT)}, True),
    ("made", "mapped", {"pays": PAYS[:1], "matrix": MATRIX}, (((1, 0), (0, -2)),)),
    ("made", "mapped_shape", {"shape": SHAPE, "matrix": MATRIX}, ((0, -1, 1), (2, 0, 1))),
    ("made", "moved", {"pays": PAYS, "shift": (3, -4)}, (((3, -3), (4, -4)), ((4, -4), (3, -3)))),
    ("made", "moved_shape", {"shape": SHAPE, "shift": (3, -4)}, ((2, 0, 7), (0, 2, -7))),
    ("made", "either_acts", {"pays": PAYS[:1], "other": PAYS[1:]}, PAYS),
    ("made", "either_answers", {"pays": (((0, 1),),), "other": (((1, 0),),)}, PAYS[:1]),
    ("made", "some_acts", {"pays": PAYS, "lot": (1,)}, PAYS[1:]),
    ("made", "some_answers", {"pays": PAYS, "lot": (1,)}, (((1, 0),), ((0, 1),))),
    ("made", "both_shapes", {"shape": SHAPE, "other": LEFT}, SHAPE + LEFT),
    ("made", "some_lines", {"shape": SHAPE, "lot": (0,)}, SHAPE[:1]),
    ("several", "need_several", {"several": SEVERAL}, SEVERAL),
    ("several", "all_led", {"several": (PAYS,), "shape": SHAPE[:1]}, ("led", (("led", (CHAIN,)),))),
    ("several", "is_all_led", {"several": (PAYS,), "shape": LEFT, "value": ("out", 0, PAPER)}, True),
    ("several", "by_turns", {"several": SEVERAL, "shape": SHAPE, "rounds": ((0, 0), (1, 0))},
     ((FIRST, LAST), (LAST, HALVES))),
    ("several", "regrets", {"wishes": ((1, 0), (0, 1))}, (((0, -1), (0, 1)), ((1, 0), (-1, 0)))),
    ("several", "regret_shape", {}, ((1, 0, 0), (0, 1, 0))),
    ("several", "while_shape", {"least": 3, "most": 4}, ((-1, 0, -3), (0, 1, 4))),
    ("texts", "need_chain", {"chain": CHAIN}, CHAIN),
    ("texts", "need_paper", {"paper": ("out", PAPER)}, ("out", PAPER)),
    ("texts", "pays_text", {"pays": PAYS}, PAYS_TEXT),
    ("texts", "read_pays", {"text": PAYS_TEXT}, PAYS),
    ("texts", "shape_text", {"shape": SHAPE}, SHAPE_TEXT),
    ("texts", "read_shape", {"text": SHAPE_TEXT}, SHAPE),
    ("texts", "chain_text", {"chain": CHAIN}, CHAIN_TEXT),
    ("texts", "read_chain", {"text": CHAIN_TEXT}, CHAIN),
    ("texts", "paper_text", {"paper": ("out", PAPER)}, "out 1 0 0 { 1/2 1/2 }"),
    ("texts", "read_paper", {"text": "out 1 0 0 { 1/2 1/2 }"}, ("out", PAPER)),
    ("sessions", "begun", {"pays": PAYS, "shape": SHAPE}, (PAYS, SHAPE, (), ())),
    ("sessions", "need_state", {"state": STATE}, STATE),
    ("sessions", "session_step", {"state": (PAYS, SHAPE, (), ()), "deed": ("answer", 0)}, (STATE, None)),
    ("sessions", "played", {"pays": PAYS, "shape": SHAPE, "deeds": (("answer", 0), ("mean",))}, (STATE, (None, LAST))),
)

# Calls with other kinds of results: nothing, the other word, the other truth.
MORE_CALLS = (
    ("shapes", "lets", {"shape": SHAPE, "point": ((1, 1), (0, 1))}, False),
    ("shapes", "tight", {"shape": SHAPE, "point": ((1, 1), (0, 1))}, ()),
    ("shapes", "is_no_point", {"lines": APART, "value": None}, False),
    ("shapes", "corners", {"shape": SHAPE[:1]}, ()),
    ("shapes", "is_bounded", {"shape": ((1, 0, 0), (0, 1, 0), (-1, -1, 0))}, True),
    ("ends", "greatest_along", {"shape": SHAPE, "a": 1, "b": -1}, None),
    ("ends", "greatest_along", {"shape": SHAPE, "a": 0, "b": 0}, (0, 1)),
    ("ends", "idle_lines", {"shape": SHAPE}, ()),
    ("ends", "same_points", {"shape": SHAPE, "other": SHAPE[::-1]}, True),
    ("games", "is_worth", {"game": GAME, "value": None}, False),
    ("games", "met", {"game": (((2, 1),),)}, ("odds", ((1, 1),))),
    ("games", "is_met", {"game": GAME, "value": None}, False),
    ("squares", "kernel_dice", {"game": (((1, 1), (2, 1)), ((0, 1), (2, 1))), "kernel": KERNEL}, None),
    ("squares", "first_kernel", {"game": (((2, 1),),)}, None),
    ("polys", "slope_of", {"poly": (5,)}, ()),
    ("polys", "sturm_row", {"poly": (-5,)}, ((-1,),)),
    ("polys", "roots_between", {"poly": POLY, "low": (1, 1), "high": (1, 1)}, 0),
    ("roots", "roots_of", {"poly": (5,)}, ()),
    ("turns", "kernel_meets", {**TURNING, "kernel": KERNEL, "t": (1, 2)}, False),
    ("chains", "chain_of", {"pays": PAYS[:1], "shape": LEFT, "turn": (0, 0)}, ("gap", ((1, 2), LAST))),
    ("chains", "is_chain", {"pays": PAYS, "shape": LEFT, "turn": (0, 0), "value": CHAIN}, False),
    ("chains", "is_gap", {"pays": PAYS, "shape": SHAPE, "turn": (0, 0), "value": GAP}, False),
    ("leading", "is_led", {"pays": PAYS, "shape": LEFT}, False),
    ("leading", "lead", {"pays": PAYS[:1], "shape": LEFT}, ("out", ((1, 0, 0), LAST))),
    ("leading", "is_lead", {"pays": PAYS, "shape": LEFT, "value": None}, False),
    ("leading", "is_border_of", {"shape": SHAPE, "value": (1, 1, 0)}, False),
    ("leading", "led_lines", {"pays": PAYS, "shape": LEFT}, ()),
    ("leading", "led_turns", {"pays": PAYS, "shape": LEFT}, ()),
    ("leading", "least_part", {"pays": PAYS, "shape": SHAPE}, None),
    ("steering", "is_pulled", {"pays": PAYS, "shape": SHAPE, "mean": LAST, "value": FIRST}, False),
    ("steering", "steered", {"pays": PAYS, "shape": SHAPE, "answers": ()}, ((), ())),
    ("steering", "is_steering", {"pays": PAYS, "shape": SHAPE, "answers": (), "value": (FIRST,)}, False),
    ("against", "dice_against", {"pays": PAYS[:1], "shape": LEFT, "odds": FIRST}, ("dice", ((1, 1),))),
    ("against", "is_against", {"pays": PAYS, "shape": LEFT, "odds": HALVES, "value": ("dice", HALVES)}, False),
    ("heights", "is_height", {"pays": PAYS, "a": 0, "b": 1, "value": ((1, 1), HALVES, HALVES)}, False),
    ("widening", "least_widening", {"pays": PAYS, "shape": ((2, 0, 1),)}, (0, (CHAIN,), None)),
    ("widening", "is_least_widening", {"pays": PAYS, "shape": ((2, 0, 0),), "value": (0, (CHAIN,), None)}, False),
    ("widening", "least_push", {"pays": (((0, 0),),), "shape": ((1, 0, 9), (-1, 0, 0)), "number": 0},
     (0, (SINGLE_CHAIN, SINGLE_CHAIN), ())),
    ("widening", "is_least_push", {"pays": PAYS, "shape": ((2, 0, 9),), "number": 0, "value": None}, False),
    ("several", "all_led", {"several": (PAYS, PAYS[:1]), "shape": SHAPE}, ("out", 1, ((2, 0, 1), LAST))),
    ("several", "is_all_led", {"several": (PAYS,), "shape": LEFT, "value": ("out", 1, PAPER)}, False),
    ("several", "by_turns", {"several": SEVERAL, "shape": SHAPE, "rounds": ()}, ((), ())),
    ("texts", "chain_text", {"chain": ()}, "chain {\n}"),
    ("texts", "read_paper", {"text": "led { chain { } }"}, ("led", ((),))),
    ("sessions", "session_step", {"state": STATE, "deed": ("ask",)}, (STATE, True)),
    ("sessions", "session_step", {"state": (PAYS[:1], SHAPE, (0, 0), ()), "deed": ("mean",)},
     ((PAYS[:1], SHAPE, (0, 0), ()), "none")),
    ("sessions", "session_step", {"state": STATE, "deed": ("undo",)}, ((PAYS, SHAPE, (), ()), None)),
    ("sessions", "played", {"pays": PAYS, "shape": SHAPE, "deeds": ()}, ((PAYS, SHAPE, (), ()), ())),
)


def is_plain(value):
    """Whether a result is made of tuples, integers, texts, True, False and None alone."""
    if type(value) is tuple:
        return all(is_plain(thing) for thing in value)
    return value is None or type(value) in (int, str, bool)


def found(module, name):
    return getattr(import_module("withinshapes." + module), name)


class InterfaceTest(unittest.TestCase):
    def test_each_function_is_defined_in_its_file(self):
        for module, functions in FUNCTIONS.items():
            tree = ast.parse((FOLDER / (module + ".py")).read_text())
            defined = {row.name for row in tree.body if isinstance(row, ast.FunctionDef)}
            with self.subTest(module):
                self.assertLessEqual(set(functions), defined)

    def test_each_function_has_its_parameters(self):
        for module, functions in FUNCTIONS.items():
            for name, parameters in functions.items():
                told = inspect.signature(found(module, name)).parameters
                with self.subTest(name):
                    self.assertEqual(list(told), parameters)
                    for parameter in told.values():
                        self.assertIs(parameter.kind, inspect.Parameter.POSITIONAL_OR_KEYWORD)
                        self.assertIs(parameter.default, inspect.Parameter.empty)

    def test_each_file_of_the_interface_is_there(self):
        for module in tuple(FUNCTIONS) + OTHER_FILES:
            with self.subTest(module):
                self.assertTrue((FOLDER / (module + ".py")).is_file())
                import_module("withinshapes." + module)

    def test_each_function_is_called_here(self):
        told = {(module, name) for module, functions in FUNCTIONS.items() for name in functions}
        self.assertEqual({call[:2] for call in CALLS}, told)

    def test_by_position_and_by_name_is_the_same(self):
        for module, name, named, answer in CALLS + MORE_CALLS:
            function = found(module, name)
            with self.subTest(name):
                self.assertEqual(function(*named.values()), answer)
                self.assertEqual(function(**named), answer)

    def test_results_are_plain_values(self):
        for module, name, named, answer in CALLS + MORE_CALLS:
            result = found(module, name)(**named)
            with self.subTest(name):
                self.assertTrue(is_plain(result))
                self.assertIs(type(result), type(answer))

    def test_what_is_checked_is_returned_itself(self):
        for module, name, named, _ in CALLS:
            if name.startswith("need_"):
                with self.subTest(name):
                    self.assertIs(found(module, name)(**named), list(named.values())[-1])


if __name__ == "__main__":
    unittest.main()
