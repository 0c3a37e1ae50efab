"""Promises 44 to 47: the forms of chains and papers, and texts, written and read."""

import re
import unittest
from fractions import Fraction
from itertools import product
from math import gcd
from random import Random

from tests.common import (
    APART, AROUND, CORNER, EXAMPLE_PAYS, HALF_ROOT, NAMED_PAYS, NOUGHT_ROOT, NO_FRACTIONS, NO_PAYS, NO_ROOTS,
    NO_SHAPES, NO_WALLS, OCTAGON, ONE_ACT_PAYS, OTHER_KINDS, SHAPES, SKEW_ROOT, UNIT_ROOT, RefusalCase, Strange,
    made_pays, own, turn_cases,
)
from withinshapes.chains import chain_of, is_chain
from withinshapes.errors import BadParameter, BadPays, BadShape, BadText, ShapeError, TooGreat
from withinshapes.leading import is_lead, lead
from withinshapes.points import need_pays
from withinshapes.shapes import need_shape
from withinshapes.texts import (
    chain_text, need_chain, need_paper, paper_text, pays_text, read_chain, read_paper, read_pays, read_shape,
    shape_text,
)

BOTH = ((0, 1), (0, 1))
ALONE = ((0,), (0,))
EVEN = ((1, 2), (1, 2))
PART = (NOUGHT_ROOT, UNIT_ROOT, BOTH)
OUT = ("out", ((1, 0, 0), EVEN))
ALL_PAYS = NAMED_PAYS + tuple(made_pays(32, 101)) + tuple(made_pays(16, 102, 100))
LONG = 10 ** 399
HEAVY_ROOT = ((-1,) + (0,) * 39 + (3,), (0, 1), (1, 1))

# ROOTs of all kinds, not in any order.
ROOTS = (
    NOUGHT_ROOT, UNIT_ROOT, HALF_ROOT, SKEW_ROOT, ((1, -2), (0, 1), (1, 1)), ((-1, 0, 2), (1, 2), (3, 4)), HEAVY_ROOT,
    ((), (LONG, 10 * LONG - 1), (LONG, 10 * LONG - 1)), ((-LONG, 2 * LONG), (1, LONG), (LONG - 1, LONG)),
)
KERNELS = (ALONE, ((3,), (0,)), BOTH, ((0, 2), (1, 3)), ((0, 1, 3), (1, 2, 3)), ((0, 1, 2, 3),) * 2)
CHAINS = ((), (PART,), (PART,) * 2, tuple(product(ROOTS[:4], ROOTS[2:], KERNELS[:3]))) + tuple(
    (part,) for part in product(ROOTS, ROOTS[3:], KERNELS[2:])
) + tuple(
    chain for word, chain in (chain_of(*case) for case in turn_cases(ALL_PAYS)[::40]) if word == "chain"
)
LEADS = tuple(lead(pays, shape) for at, pays in enumerate(ALL_PAYS) for shape in SHAPES[at % 31::31])
PAPERS = (
    ("led", ()), ("led", ((),)), ("led", CHAINS[:5]), OUT, ("out", ((-LONG, 0, LONG), ((1, LONG), (LONG - 1, LONG)))),
    ("out", ((0, -7, 3), ((1, 1),))), ("out", ((1, 2, -3), ((0, 1), (1, 3), (2, 3), (0, 1)))),
) + LEADS

GRAMMAR = {
    "PAYS": (("pays", "{", "ACT ..", "}"),),
    "ACT": (("act", "{", "PAIR ..", "}"),),
    "PAIR": (("N", "N"),),
    "SHAPE": (("shape", "{", "LINE ..", "}"),),
    "LINE": (("line", "N", "N", "N"),),
    "CHAIN": (("chain", "{", "PART ..", "}"),),
    "PART": (("part", "ROOT", "ROOT", "{", "N ..", "}", "{", "N ..", "}"),),
    "ROOT": (("at", "F"), ("root", "{", "N ..", "}", "F", "F")),
    "PAPER": (("led", "{", "CHAIN ..", "}"), ("out", "N", "N", "N", "{", "F ..", "}")),
}

FORMS = {
    "PAYS": (pays_text, read_pays, need_pays, ALL_PAYS),
    "SHAPE": (shape_text, read_shape, need_shape, SHAPES),
    "CHAIN": (chain_text, read_chain, need_chain, CHAINS),
    "PAPER": (paper_text, read_paper, need_paper, PAPERS),
}


def is_n(word):
    """Whether a word is an N."""
    return re.fullmatch("0|-?[1-9][0-9]{0,399}", word, re.ASCII) is not None


def is_f(word):
    """Whether a word is an F."""
    if is_n(word):
        return True
    above, stroke, below = word.partition("/")
    return stroke == "/" and is_n(above) and is_n(below) and int(below) > 1 and gcd(int(above), int(below)) == 1


def starts(thing, word):
    """Whether what the grammar calls so can begin with a word."""
    if thing in GRAMMAR:
        return any(starts(row[0], word) for row in GRAMMAR[thing])
    return {"N": is_n, "F": is_f}.get(thing, thing.__eq__)(word)


def wanted_behind(wanted, word):
    """What is wanted behind a word, None if the word isn't wanted; the last thing is wanted first."""
    while wanted:
        thing = wanted.pop()
        if thing.endswith(" .."):
            if starts(thing[:-3], word):
                wanted += [thing, thing[:-3]]
        elif not starts(thing, word):
            return None
        elif thing in GRAMMAR:
            wanted += next(row for row in GRAMMAR[thing] if starts(row[0], word))[::-1]
        else:
            return wanted
    return None


def placed_words(text):
    """The words of a text, each with its place, and the place behind all of them."""
    rows = [[word for word in re.split("[ \n]", row) if word] for row in text.split("\n")]
    words = [(word, (line, at)) for line, row in enumerate(rows) for at, word in enumerate(row)]
    return words, (len(rows) - 1, len(rows[-1]))


def first_wrong(form, text):
    """The place of the first wrong word, None if the text is of the form."""
    words, end = placed_words(text)
    wanted = [form]
    for word, place in words:
        wanted = wanted_behind(wanted, word)
        if wanted is None:
            return place
    return end if wanted else None


def fraction_of(word):
    """The FRACTION of an F."""
    value = Fraction(word)
    return (value.numerator, value.denominator)


def things_of(words, form):
    """What is told up to the brace that closes it, which goes too."""
    assert words.pop(0) == "{"
    found = []
    while words[0] != "}":
        found.append(told_of(words, form))
    words.pop(0)
    return tuple(found)


def told_of(words, form):
    """What words of a form tell; they go as they are read."""
    if form == "N":
        return int(words.pop(0))
    if form == "F":
        return fraction_of(words.pop(0))
    if form == "PAIR":
        return (told_of(words, "N"), told_of(words, "N"))
    word = words.pop(0)
    if word in ("pays", "act", "shape", "chain"):
        return things_of(words, {"pays": "ACT", "act": "PAIR", "shape": "LINE", "chain": "PART"}[word])
    if word == "line":
        return tuple(told_of(words, "N") for _ in range(3))
    if word == "part":
        return (told_of(words, "ROOT"), told_of(words, "ROOT"), (things_of(words, "N"), things_of(words, "N")))
    if word == "at":
        return ((),) + (told_of(words, "F"),) * 2
    if word == "root":
        return (things_of(words, "N"), told_of(words, "F"), told_of(words, "F"))
    if word == "led":
        return ("led", things_of(words, "CHAIN"))
    assert word == "out"
    wall = tuple(told_of(words, "N") for _ in range(3))
    return ("out", (wall, things_of(words, "F")))


def own_fraction(value):
    """The F of a FRACTION."""
    return str(Fraction(*value))


def own_root(root):
    """The words of a ROOT."""
    poly, low, high = root
    if poly == ():
        return f"at {own_fraction(low)}"
    return f"root {{ {' '.join(map(str, poly))} }} {own_fraction(low)} {own_fraction(high)}"


def own_chain(chain, blanks):
    """The rows of a CHAIN, each behind so many blanks."""
    rows = ["chain {"]
    for start, end, kernel in chain:
        sets = " ".join("{ " + " ".join(map(str, numbers)) + " }" for numbers in kernel)
        rows.append(f"  part {own_root(start)} {own_root(end)} {sets}")
    return [" " * blanks + row for row in rows + ["}"]]


def own_text(form, value):
    """The text of a value."""
    if form == "PAYS":
        rows = ["pays {"] + ["  act { " + " ".join(f"{x} {y}" for x, y in act) + " }" for act in value] + ["}"]
    elif form == "SHAPE":
        rows = ["shape {"] + [f"  line {a} {b} {c}" for a, b, c in value] + ["}"]
    elif form == "CHAIN":
        rows = own_chain(value, 0)
    elif value[0] == "led":
        rows = ["led {"] + [row for chain in value[1] for row in own_chain(chain, 2)] + ["}"]
    else:
        (a, b, c), odds = value[1]
        rows = [f"out {a} {b} {c} {{ {' '.join(own_fraction(part) for part in odds)} }}"]
    return "\n".join(rows)


def laid_out(words, drawn):
    """A text of words with all kinds of blanks and line feeds."""
    text = drawn.choice(("", " ", "\n", "  \n "))
    for word in words:
        text += word + drawn.choice((" ", "  ", "\n", " \n", "\n\n  ", "\n"))
    return text if drawn.random() < 0.5 else text.rstrip(" \n")


def changed_words(words, drawn):
    """The words with one of them exchanged, put in, left out, put twice, or cut off there."""
    at = drawn.randrange(len(words) + 1)
    other = drawn.choice(words + [
        "{", "}", "act", "line", "part", "at", "root", "chain", "pays", "shape", "led", "out", "0", "-1", "7", "1/2",
        "101", "-1001", "5/4",
        "2/4", "00", "-0", "+1", "1/1", "3/0", "{}", "x", "1.0", "--1", "1/-2", "-1/2", "0/2", "\t", "1\t", "\u0661",
    ])
    kind = drawn.randrange(6)
    if kind == 0:
        return words[:at] + [other] + words[at + 1:]
    if kind == 1:
        return words[:at] + [other] + words[at:]
    if kind == 2:
        return words[:at] + words[at + 1:]
    if kind == 3:
        return words[:at] + words[at:at + 1] * 2 + words[at + 1:]
    if kind == 4:
        return words[:at]
    by = drawn.randrange(len(words))
    at = min(at, len(words) - 1)
    found = list(words)
    found[at], found[by] = found[by], found[at]
    return found


class TextCase(RefusalCase):
    def wrong_at(self, place, call, text):
        """The text is refused with this place."""
        error = self.refused(BadText, call, text)
        self.assertEqual((error.line, error.word), place)
        self.assertEqual((type(error.line), type(error.word)), (int, int))

    def read_as_told(self, form, text):
        """The text is read, or refused, as the grammar and the check of what it tells say; whether it is read."""
        _, read, need, _ = FORMS[form]
        place = first_wrong(form, text)
        if place is not None:
            self.wrong_at(place, read, text)
            return "form"
        value = told_of([word for word, _ in placed_words(text)[0]], form)
        try:
            need(value)
        except ShapeError as error:
            found = self.refused(type(error), read, text)
            self.assertEqual(vars(found), vars(error))
            return "value"
        self.assertEqual(read(text), value)
        return "read"


# What is no KERNEL of any game of up to four acts and answers.
NO_KERNELS = OTHER_KINDS + (
    0, ((), ()), ((0,),), ((0,), (0,), (0,)), ((0,), ()), ((), (0,)), ((0, 1), (0,)), ((0,), (0, 1)), ((4,), (0,)),
    ((0,), (4,)), ((-1,), (0,)), ((0,), (-1,)), ((1, 0), (0, 1)), ((0, 1), (1, 0)), ((0, 0), (0, 1)), [(0,), (0,)],
    ([0], (0,)), ((0,), [0]), (0, 0), ((False,), (0,)), ((0,), (False,)), ((0, True), (0, 1)), ((0.0,), (0,)),
    (("0",), (0,)), ((None,), (0,)), ((0, 1, 2, 3, 4),) * 2, ((0, 1, 2, 3), (0, 1, 2, 4)), ((Strange(),), (0,)),
    ((0,), (Strange(),)), (Strange(), Strange()), ({0}, {0}),
)

NO_PARTS = OTHER_KINDS + (1, PART[:2], PART + (None,), list(PART), PART[::-1], (PART,)) + tuple(
    (value, UNIT_ROOT, BOTH) for value in NO_ROOTS
) + tuple(
    (NOUGHT_ROOT, value, BOTH) for value in NO_ROOTS
) + tuple(
    (NOUGHT_ROOT, UNIT_ROOT, value) for value in NO_KERNELS
)

# () is a CHAIN.
NO_CHAINS = tuple(value for value in OTHER_KINDS if type(value) is not tuple or value != ()) + (
    1, PART, [PART], (PART, None), (None, PART), (PART,) * 2001, (None,) * 2001, ("chain", (PART,)), {PART: 1}, "chain { }",
) + tuple((value,) for value in NO_PARTS) + tuple((PART, value, PART) for value in NO_PARTS[::7])

NO_ODDS = tuple(value for value in OTHER_KINDS) + (
    1, ((1, 2),), ((1, 2), (1, 3)), ((1, 5),) * 5, ((-1, 2), (3, 2)), ((2, 4), (1, 2)), [(1, 2), (1, 2)],
    ((1, 2), None), ((True, 1), (0, 1)), ((0, 1),), ((1, 1), (1, 1)), (Strange(),), ((1, 2), (1, 2), (-1, 2), (1, 2)),
) + tuple((value, (0, 1)) for value in NO_FRACTIONS)

NO_PAPERS = OTHER_KINDS + (
    1, OUT[:1], OUT + (None,), list(OUT), OUT[::-1], OUT[1], ("Out", OUT[1]), ("", ()), ("led",), ("led", (), ()),
    ("led", OUT[1]), ("out", ()), ("led", [()]), ("led", ((),) * 41), ("led", (None,) * 41), ("led", PART), ("led", (PART,)),
    ("chain", ()), (b"led", ()), (Strange(), ()), ("led", Strange()), ("out", Strange()), ("out", OUT[1][:1]),
    ("out", OUT[1] + (None,)), ("out", list(OUT[1])), ("out", OUT[1][::-1]), "led { }", (("led", ()),), ["led", ()],
) + tuple(("led", value) for value in OTHER_KINDS if type(value) is not tuple or value != ()) + tuple(
    ("led", ((), value)) for value in NO_CHAINS[::3]
) + tuple(
    ("out", (value, EVEN)) for value in NO_WALLS
) + tuple(
    ("out", ((1, 0, 0), value)) for value in NO_ODDS
) + tuple((value, ()) for value in OTHER_KINDS)


class FormsTest(RefusalCase):
    def test_chains_are_returned(self):
        for chain in CHAINS:
            self.assertIs(need_chain(chain), chain)

    def test_papers_are_returned(self):
        for paper in PAPERS:
            self.assertIs(need_paper(paper), paper)

    def test_whether_it_is_one_for_some_turn_is_not_asked(self):
        for chain in ((), (PART, PART), ((UNIT_ROOT, NOUGHT_ROOT, ALONE),), ((HALF_ROOT, HALF_ROOT, BOTH),)):
            self.assertIs(need_chain(chain), chain)
            self.assertIs(is_chain(EXAMPLE_PAYS, CORNER, (0, 0), chain), False)
        # No wall with these odds keeps the first example's pays out of anything.
        paper = ("out", ((1, 0, 10 ** 40), EVEN))
        self.assertIs(need_paper(paper), paper)

    def test_what_judges_take_is_of_the_form(self):
        for at, pays in enumerate(ALL_PAYS[::3]):
            for shape in SHAPES[at % 23::23]:
                paper = lead(pays, shape)
                self.assertIs(is_lead(pays, shape, need_paper(paper)), True)

    def test_what_is_no_chain(self):
        self.each_refused(BadParameter, NO_CHAINS, need_chain, [None], 0)
        self.each_refused(BadParameter, NO_CHAINS, chain_text, [None], 0)

    def test_what_is_no_paper(self):
        self.each_refused(BadParameter, NO_PAPERS, need_paper, [None], 0)
        self.each_refused(BadParameter, NO_PAPERS, paper_text, [None], 0)

    def test_two_thousand_parts_and_one_more(self):
        parts = tuple((((), (1, at), (1, at)), UNIT_ROOT, ALONE) for at in range(1, 2002))
        chain = parts[:2000]
        self.assertIs(need_chain(chain), chain)
        self.assertIs(need_paper(("led", (chain,)))[1][0], chain)
        self.assertEqual(read_chain(chain_text(chain)), chain)
        self.refused_value(BadParameter, parts, need_chain, parts)
        self.refused_value(BadParameter, parts, chain_text, parts)
        paper = ("led", (parts,))
        self.refused_value(BadParameter, paper, need_paper, paper)

    def test_forty_chains_and_one_more(self):
        paper = ("led", ((PART,),) * 40)
        self.assertIs(need_paper(paper), paper)
        self.assertEqual(read_paper(paper_text(paper)), paper)
        more = ("led", ((PART,),) * 41)
        for call in (need_paper, paper_text):
            self.refused_value(BadParameter, more, call, more)

    def test_polys_of_forty_one_things(self):
        chain = ((HEAVY_ROOT, UNIT_ROOT, BOTH),)
        self.assertIs(need_chain(chain), chain)
        chain = ((((-1,) + (0,) * 40 + (3,), (0, 1), (1, 1)), UNIT_ROOT, BOTH),)
        self.refused_value(BadParameter, chain, need_chain, chain)

    def test_odds_of_one_to_four(self):
        for many in range(1, 5):
            paper = ("out", ((0, 1, 7), ((1, many),) * many))
            self.assertIs(need_paper(paper), paper)


class WrittenTest(TextCase):
    def test_row_by_row(self):
        for form, (write, _, _, values) in FORMS.items():
            for value in values:
                self.assertEqual(write(value), own_text(form, value))

    def test_the_examples(self):
        self.assertEqual(shape_text(((2, 0, 1), (0, 2, -1))), "shape {\n  line 2 0 1\n  line 0 2 -1\n}")
        self.assertEqual(paper_text(OUT), "out 1 0 0 { 1/2 1/2 }")

    def test_by_hand(self):
        self.assertEqual(pays_text((((0, 1), (-100, 0)), ((1, 0), (0, 100)))),
                         "pays {\n  act { 0 1 -100 0 }\n  act { 1 0 0 100 }\n}")
        self.assertEqual(chain_text(()), "chain {\n}")
        self.assertEqual(chain_text((PART, (SKEW_ROOT, HALF_ROOT, ((0, 2), (1, 3))))),
                         "chain {\n  part at 0 at 1 { 0 1 } { 0 1 }\n"
                         "  part root { -1 0 2 } 0 1 at 1/2 { 0 2 } { 1 3 }\n}")
        self.assertEqual(paper_text(("led", ())), "led {\n}")
        self.assertEqual(paper_text(("led", ((), (PART,)))),
                         "led {\n  chain {\n  }\n  chain {\n    part at 0 at 1 { 0 1 } { 0 1 }\n  }\n}")
        self.assertEqual(paper_text(("out", ((-1, 2, -3), ((0, 1), (1, 1))))), "out -1 2 -3 { 0 1 }")

    def test_wrong_pays_and_shapes(self):
        for place, value in NO_PAYS:
            self.refused_place(place, BadPays, pays_text, value)
        for place, value in NO_SHAPES:
            self.refused_place(place, BadShape, shape_text, value)

    def test_four_hundred_figures_and_one_more(self):
        most, more = 10 ** 400 - 1, 10 ** 400
        for number in (most, -most):
            for value in (((number, 1, 0), EVEN), ((0, 1, number), EVEN), ((1, number, 0), EVEN)):
                self.assertEqual(read_paper(paper_text(("out", value))), ("out", value))
        for number in (more, -more, 10 ** 5000, -10 ** 5000):
            for value in (((number, 1, 0), EVEN), ((0, 1, number), EVEN), ((1, number, 0), EVEN)):
                self.assertEqual(self.refused(TooGreat, paper_text, ("out", value)).most, 400)

    def test_figures_of_fractions_and_polys(self):
        most, more = 10 ** 400 - 1, 10 ** 400
        for number in (most, more):
            odds = ((1, number), (number - 1, number))
            # A number by itself, one by a POLY, one by its stretch.
            roots = (((), (1, number), (1, number)), ((-number, number - 1, 3), (1, 3), (1, 1)),
                     ((-1, 2), (1, number), (1, 1)), ((-1, 2), (1, 3), (number - 1, number)))
            chains = [((root, UNIT_ROOT, ALONE),) for root in roots] + [((NOUGHT_ROOT, root, BOTH),) for root in roots]
            papers = [("out", ((1, 0, 0), odds))] + [("led", ((), chain)) for chain in chains]
            for form, values in (("CHAIN", chains), ("PAPER", papers)):
                write, read, need, _ = FORMS[form]
                for value in values:
                    self.assertIs(need(value), value)
                    if number == most:
                        self.assertEqual(read(write(value)), value)
                    else:
                        self.assertEqual(self.refused(TooGreat, write, value).most, 400)

    def test_what_is_wrong_is_told_ahead_of_what_is_too_great(self):
        great = ((), (1, 10 ** 400), (1, 10 ** 400))
        for chain in (((great, UNIT_ROOT, BOTH), None), ((great, UNIT_ROOT, ()),), ((great, UNIT_ROOT, BOTH),) * 2001):
            self.refused_value(BadParameter, chain, chain_text, chain)
        paper = ("out", ((10 ** 400, 0, 0), ((1, 2),)))
        self.refused_value(BadParameter, paper, paper_text, paper)


class ReadTest(TextCase):
    def test_read_as_it_was_written(self):
        for write, read, _, values in FORMS.values():
            for value in values:
                text = write(value)
                self.assertEqual(read(text), value)
                self.assertEqual(write(read(text)), text)

    def test_other_blanks_and_line_feeds(self):
        drawn = Random(8)
        for write, read, _, values in FORMS.values():
            for value in values[::3]:
                words = write(value).split()
                for text in (" ".join(words), "\n".join(words), "\n \n" + "  ".join(words) + " \n\n",
                             laid_out(words, drawn), laid_out(words, drawn)):
                    self.assertEqual(read(text), value)

    def test_the_examples(self):
        self.wrong_at((0, 5), read_shape, "shape { line 1 0 }")
        self.wrong_at((0, 5), read_paper, "out 1 0 0 { 2/4 }")

    def test_the_place_of_the_first_wrong_word(self):
        drawn = Random(9)
        found = {}
        for form, (write, _, _, values) in FORMS.items():
            for value in values:
                words = write(value).split()
                if len(words) > 300:
                    continue
                for _ in range(30):
                    words_now = changed_words(words, drawn)
                    kind = self.read_as_told(form, laid_out(words_now, drawn) if words_now else drawn.choice((" ", "\n")))
                    found[form, kind] = found.get((form, kind), 0) + 1
        for form in FORMS:
            for kind in ("form", "value", "read"):
                self.assertGreater(found.get((form, kind), 0), 2, (form, kind))

    def test_two_wrong_words(self):
        drawn = Random(10)
        for form, (write, _, _, values) in FORMS.items():
            for value in values[::2]:
                words = write(value).split()
                if len(words) < 300:
                    words = changed_words(changed_words(words, drawn), drawn)
                    self.read_as_told(form, laid_out(words + ["}"], drawn))

    def test_each_form_by_another_reader(self):
        for form, (write, _, _, values) in FORMS.items():
            for other in FORMS:
                if other != form:
                    for value in values[::9]:
                        self.assertEqual(self.read_as_told(other, write(value)), "form")

    def test_each_beginning(self):
        for form, value in (("PAYS", EXAMPLE_PAYS), ("SHAPE", OCTAGON), ("CHAIN", ((SKEW_ROOT, UNIT_ROOT, BOTH),)),
                            ("PAPER", ("led", ((PART,), ()))), ("PAPER", OUT)):
            write, read, _, _ = FORMS[form]
            text = write(value)
            words = text.split()
            for many in range(len(words)):
                # A beginning can be gone on with, so only its end is wrong: as many words as it has.
                self.wrong_at((0, many), read, " ".join(words[:many]))
                self.wrong_at((0, many), read, " ".join(words[:many]) + "   ")
                self.wrong_at((1, 0), read, " ".join(words[:many]) + "\n")
                self.wrong_at((3, 0), read, "\n" + " ".join(words[:many]) + " \n\n  ")
                self.wrong_at((many, 1) if many else (0, 0), read, "\n".join([""] + words[:many]))
                # One that isn't wanted anywhere, there.
                self.wrong_at((0, many), read, " ".join(words[:many] + ["}{"] + words[many:]))
            for more in words + ["{", "0", "x"]:
                self.wrong_at((0, len(words)), read, " ".join(words + [more]))
                self.wrong_at((len(text.split("\n")), 0), read, text + "\n" + more)

    def test_texts_that_end_too_early(self):
        for read in (read_pays, read_shape, read_chain, read_paper):
            for text, place in (("", (0, 0)), (" ", (0, 0)), ("\n", (1, 0)), ("\n\n  ", (2, 0)), ("  \n", (1, 0))):
                self.wrong_at(place, read, text)
        self.wrong_at((1, 3), read_shape, "shape {\n  line 1 0")
        self.wrong_at((2, 0), read_shape, "shape {\n  line 1 0\n")
        self.wrong_at((0, 2), read_paper, "led {")
        self.wrong_at((0, 1), read_paper, "led")

    def test_blanks_and_line_feeds_alone_part_words(self):
        for sign in ("\t", "\r", "\x0b", "\x0c", "\u00a0", "\u2028", "\x1c", "\x85", "\x00"):
            self.wrong_at((0, 0), read_shape, "shape" + sign + "{ line 1 0 0 }")
            self.wrong_at((0, 3), read_shape, "shape { line 1" + sign + "0 0 }")
            self.wrong_at((0, 3), read_shape, "shape { line " + sign + "1 0 0 }")
            self.wrong_at((0, 6), read_shape, "shape { line 1 0 0 }" + sign)
            self.wrong_at((0, 0), read_shape, sign + "shape { line 1 0 0 }")
            self.wrong_at((0, 1), read_shape, "shape " + sign + " { line 1 0 0 }")
        self.wrong_at((0, 1), read_shape, "shape {line 1 0 0}")
        self.wrong_at((0, 0), read_shape, "shape{ line 1 0 0 }")

    def test_numbers_that_are_none(self):
        for word in ("00", "-0", "+1", "01", "-01", "--1", "1-", "-", "+", "1.0", "1e3", "0x1", "1_000", "1,0", "\u0661",
                     "\u00b2", "\uff11", "1/1", "1/2", "one", "1" * 401, "-" + "1" * 401, "0" * 400, "\u0967",
                     "- 1", "1\x00", "0.", "O", "1\t", "00000", "-00", "#1", "--", "1" * 5000, "9" * 100000):
            self.wrong_at((0, 3), read_shape, "shape { line " + word + " 0 0 }")
            self.wrong_at((0, 5), read_shape, "shape { line 1 0 " + word + " }")
            self.wrong_at((0, 5), read_chain, "chain { part root { " + word + " } 0 1 at 1 { 0 } { 0 } }")
            self.wrong_at((0, 4), read_pays, "pays { act { " + word + " 1 } }")

    def test_fractions_that_are_none(self):
        for word in ("1/1", "0/1", "2/4", "0/2", "-2/4", "1/-2", "1/0", "1/", "/2", "/", "1//2", "1/2/3", "1/02", "01/2",
                     "-0/3", "+1/2", "1/+2", "0.5", "1:2", "3/3", "-1/1", "--1/2", "1/" + "1" * 401, "1" * 401 + "/2",
                     "\u0661/2", "1/\u0662", "1\\2", "2/1", "100/10", "1 /2"):
            self.wrong_at((0, 4) if word != "1 /2" else (0, 5), read_chain, "chain { part at " + word + " at 1 { 0 } { 0 } }")
            self.wrong_at((0, 5) if word != "1 /2" else (0, 6), read_paper, "out 1 0 0 { " + word + " }")

    def test_four_hundred_figures(self):
        most = "9" * 400
        for sign in ("", "-"):
            paper = read_paper("out " + sign + most + " 0 " + sign + "1" + "0" * 399 + " { 1 }")
            self.assertEqual(paper, ("out", ((int(sign + most), 0, int(sign + "1") * LONG), ((1, 1),))))
            self.wrong_at((0, 1), read_paper, "out " + sign + most + "9 0 0 { 1 }")
            self.wrong_at((0, 3), read_paper, "out 1 0 " + sign + "1" + "0" * 400 + " { 1 }")
        above, below = 10 ** 400 - 2, 10 ** 400 - 1
        self.assertEqual(read_paper(f"out 1 0 0 {{ {above}/{below} 1/{below} }}")[1][1], ((above, below), (1, below)))
        self.wrong_at((0, 5), read_paper, f"out 1 0 0 {{ {above}/{10 ** 400 + 1} 1 }}")

    def test_fractions_as_told(self):
        for word, number in (("0", (0, 1)), ("1", (1, 1)), ("1/2", (1, 2)), ("399/400", (399, 400))):
            chain = read_chain(f"chain {{ part at {word} at 1 {{ 0 }} {{ 0 }} }}")
            self.assertEqual(chain, ((((), number, number), UNIT_ROOT, ALONE),))
        # Numbers beyond nought to one are of the form, but no ROOT.
        for word, number in (("-3", (-3, 1)), ("7/2", (7, 2)), ("-1/2", (-1, 2))):
            told = ((((), number, number), UNIT_ROOT, ALONE),)
            error = self.refused(BadParameter, read_chain, f"chain {{ part at {word} at 1 {{ 0 }} {{ 0 }} }}")
            self.assertEqual(error.value, told)

    def test_behind_all_words_what_was_told(self):
        for text, place in (("pays { }", ()), ("pays { act { } }", (0,)), ("pays { act { 101 0 } }", (0, 0)),
                            ("pays { act { 1 0 } act { 1 0 1 0 } }", (1,)), ("pays {" + " act { 1 0 }" * 5 + " }", ()),
                            ("pays { act { " + "1 0 " * 5 + "} }", (0,)), ("pays { act { 1 0 } act { 0 -101 } }", (1, 0))):
            self.refused_place(place, BadPays, read_pays, text)
        for text, place in (("shape { }", ()), ("shape { line 0 0 1 }", (0,)), ("shape { line 1 0 1001 }", (0,)),
                            ("shape { " + "line 1 0 0 " * 9 + "}", ()), ("shape { line 1 0 0 line 1 -1001 0 }", (1,)),
                            ("shape { line 1 0 0 line -1 0 -1 }", ())):
            self.refused_place(place, BadShape, read_shape, text)
        for text, value in (
            ("chain { part at 0 at 1 { } { } }", ((NOUGHT_ROOT, UNIT_ROOT, ((), ())),)),
            ("chain { part at 0 at 1 { 0 } { 0 1 } }", ((NOUGHT_ROOT, UNIT_ROOT, ((0,), (0, 1))),)),
            ("chain { part at 0 at 1 { 1 0 } { 0 1 } }", ((NOUGHT_ROOT, UNIT_ROOT, ((1, 0), (0, 1))),)),
            ("chain { part at 0 at 1 { 4 } { 0 } }", ((NOUGHT_ROOT, UNIT_ROOT, ((4,), (0,))),)),
            ("chain { part at 0 root { 1 0 } 0 1 { 0 } { 0 } }", ((NOUGHT_ROOT, ((1, 0), (0, 1), (1, 1)), ALONE),)),
            ("chain { part at 0 root { } 0 1 { 0 } { 0 } }", ((NOUGHT_ROOT, ((), (0, 1), (1, 1)), ALONE),)),
        ):
            error = self.refused(BadParameter, read_chain, text)
            self.assertEqual(error.value, value)
            self.assertEqual(self.refused(BadParameter, read_paper, "led { " + text + " }").value, ("led", (value,)))
        for text, value in (("out 0 0 1 { 1 }", ("out", ((0, 0, 1), ((1, 1),)))), ("out 1 0 0 { }", ("out", ((1, 0, 0), ()))),
                            ("out 1 0 0 { 1/2 1/3 }", ("out", ((1, 0, 0), ((1, 2), (1, 3))))),
                            ("out 1 0 0 { 3/2 -1/2 }", ("out", ((1, 0, 0), ((3, 2), (-1, 2))))),
                            ("led {" + " chain { }" * 41 + " }", ("led", ((),) * 41))):
            self.assertEqual(self.refused(BadParameter, read_paper, text).value, value)

    def test_a_wrong_word_is_told_ahead_of_wrong_values(self):
        self.wrong_at((0, 7), read_pays, "pays { act { 101 0 0 } }")
        self.wrong_at((0, 7), read_shape, "shape { line 0 0 0 } }")
        self.wrong_at((1, 0), read_shape, "shape { line 0 0 0 }\nshape")
        self.wrong_at((0, 6), read_paper, "out 0 0 0 { } }")

    def test_a_root_told_by_no_numbers(self):
        # Of the form, as any number of N may stand there; and the number itself.
        chain = ((NOUGHT_ROOT, HALF_ROOT, ALONE),)
        self.assertEqual(read_chain("chain { part at 0 root { } 1/2 1/2 { 0 } { 0 } }"), chain)
        self.assertEqual(chain_text(chain), "chain {\n  part at 0 at 1/2 { 0 } { 0 }\n}")

    def test_two_thousand_and_one_parts_are_read_and_refused(self):
        text = "chain {" + " part at 0 at 1 { 0 1 } { 0 1 }" * 2001 + " }"
        self.assertEqual(self.refused(BadParameter, read_chain, text).value, (PART,) * 2001)
        # The form of all words comes first.
        self.wrong_at((0, 2 + 13 * 2001), read_chain, text[:-1] + "{")

    def test_what_is_no_text(self):
        for read in (read_pays, read_shape, read_chain, read_paper):
            for value in OTHER_KINDS + (1, ["shape", "{", "}"], b"shape { line 1 0 0 }", EXAMPLE_PAYS, CORNER):
                if type(value) is not str:
                    self.wrong_at((0, 0), read, value)

    def test_texts_of_any_length(self):
        self.wrong_at((0, 2), read_shape, "shape {" + " " * 10 ** 6)
        self.wrong_at((10 ** 5, 1), read_shape, "shape {" + "\n" * 10 ** 5 + "line")
        self.assertEqual(read_shape("\n" * 10 ** 5 + " " * 10 ** 5 + "shape { line 1 0 0 }"), ((1, 0, 0),))
        self.refused_place((), BadPays, read_pays, "pays {" + " act { 1 0 }" * 10 ** 4 + " }")
        self.wrong_at((0, 0), read_paper, "out" * 10 ** 5)


class AcrossTest(unittest.TestCase):
    def test_papers_that_judges_take_by_their_texts(self):
        for at, pays in enumerate(ALL_PAYS[::2]):
            for shape in SHAPES[at % 19::19]:
                paper = read_paper(paper_text(lead(pays, shape)))
                self.assertIs(is_lead(read_pays(pays_text(pays)), read_shape(shape_text(shape)), paper), True)

    def test_odds_told_by_their_sum(self):
        paper = read_paper("out 2 0 1 { 1 0 }")
        self.assertEqual(sum(own(paper[1][1])), 1)
        self.assertIs(is_lead(ONE_ACT_PAYS, CORNER, paper), True)

    def test_shapes_without_a_common_point(self):
        for lines in (APART, AROUND):
            text = "shape { " + " ".join("line " + " ".join(map(str, line)) for line in lines) + " }"
            with self.assertRaises(BadShape) as caught:
                read_shape(text)
            self.assertEqual(caught.exception.place, ())


if __name__ == "__main__":
    unittest.main()
