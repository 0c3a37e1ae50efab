"""Texts of pays, shapes, chains and papers: written and read."""

from withinshapes.chains import MOST_TRIPLES
from withinshapes.errors import BadParameter, BadText
from withinshapes.fractions import are_shares
from withinshapes.keeping import is_wall
from withinshapes.kinds import MOST_ACTS, MOST_ANSWERS, is_pair, is_row, is_text
from withinshapes.points import need_pays
from withinshapes.polys import NO_POLY
from withinshapes.roots import exactly, has_root_form, is_root
from withinshapes.shapes import need_shape
from withinshapes.squares import is_kernel
from withinshapes.wording import Words, fraction_word, number_word

MOST_CHAINS = 40


def is_part_form(value):
    """Whether a value is a triple of what may be two ROOTs, and a KERNEL of some game."""
    if not is_row(value, 3, 3) or not has_root_form(value[0]) or not has_root_form(value[1]):
        return False
    return is_kernel(value[2], MOST_ACTS, MOST_ANSWERS)


def is_chain_form(value):
    """Whether a value is a CHAIN as texts tell them."""
    if not is_row(value, 0, MOST_TRIPLES) or not all([is_part_form(part) for part in value]):
        return False
    # Most ROOTs stand twice: where one part ends and where the next one begins.
    roots = sorted({root for part in value for root in part[:2]})
    return all([is_root(root) for root in roots])


def is_paper_form(value):
    """Whether a value is a PAPER as texts tell them."""
    if not is_pair(value) or not is_text(value[0]):
        return False
    word, told = value
    if word == "led":
        return is_row(told, 0, MOST_CHAINS) and all([is_chain_form(chain) for chain in told])
    if word != "out" or not is_pair(told) or not is_wall(told[0]):
        return False
    return is_row(told[1], 1, MOST_ANSWERS) and are_shares(told[1], len(told[1]))


def need_chain(chain):
    """The CHAIN itself."""
    if not is_chain_form(chain):
        raise BadParameter(chain)
    return chain


def need_paper(paper):
    """The PAPER itself."""
    if not is_paper_form(paper):
        raise BadParameter(paper)
    return paper


def numbers_row(numbers):
    """Integers as words of a row."""
    return " ".join([number_word(number) for number in numbers])


def fractions_row(values):
    """FRACTIONs as words of a row."""
    return " ".join([fraction_word(value) for value in values])


def framed(word, rows):
    """The rows of a word with braces around rows."""
    return [word + " {"] + ["  " + row for row in rows] + ["}"]


def act_row(act):
    """The row of an ACT."""
    return "act { " + numbers_row([number for pay in act for number in pay]) + " }"


def root_row(root):
    """A ROOT as words of a row."""
    poly, low, high = root
    if poly == NO_POLY:
        return "at " + fraction_word(low)
    return "root { " + numbers_row(poly) + " } " + fractions_row([low, high])


def part_row(part):
    """The row of a PART."""
    start, end, (acts, answers) = part
    kernel = "{ " + numbers_row(acts) + " } { " + numbers_row(answers) + " }"
    return "part " + root_row(start) + " " + root_row(end) + " " + kernel


def chain_rows(chain):
    """The rows of a CHAIN."""
    return framed("chain", [part_row(part) for part in chain])


def pays_text(pays):
    """The text of PAYS."""
    need_pays(pays)
    return "\n".join(framed("pays", [act_row(act) for act in pays]))


def shape_text(shape):
    """The text of a shape."""
    need_shape(shape)
    return "\n".join(framed("shape", ["line " + numbers_row(line) for line in shape]))


def chain_text(chain):
    """The text of a CHAIN."""
    need_chain(chain)
    return "\n".join(chain_rows(chain))


def paper_text(paper):
    """The text of a PAPER."""
    need_paper(paper)
    word, told = paper
    if word == "led":
        return "\n".join(framed("led", [row for chain in told for row in chain_rows(chain)]))
    wall, odds = told
    return "out " + numbers_row(wall) + " { " + fractions_row(odds) + " }"


def told_in_braces(words, told_once):
    """The tuple of what stands between braces, taken one by one."""
    words.take("{")
    found = []
    while words.ahead() != "}":
        found.append(told_once(words))
    words.take("}")
    return tuple(found)


def number_in(words):
    """An integer, taken from the words."""
    return words.take_number()


def fraction_in(words):
    """A FRACTION, taken from the words."""
    return words.take_fraction()


def pair_in(words):
    """A pair of integers, taken from the words."""
    return (words.take_number(), words.take_number())


def triple_in(words):
    """A triple of integers, taken from the words."""
    return (words.take_number(), words.take_number(), words.take_number())


def act_in(words):
    """An ACT, taken from the words."""
    words.take("act")
    return told_in_braces(words, pair_in)


def line_in(words):
    """A LINE, taken from the words."""
    words.take("line")
    return triple_in(words)


def root_in(words):
    """A ROOT, taken from the words."""
    if words.ahead() == "at":
        words.take("at")
        return exactly(words.take_fraction())
    words.take("root")
    poly = told_in_braces(words, number_in)
    return (poly, words.take_fraction(), words.take_fraction())


def part_in(words):
    """A PART, taken from the words."""
    words.take("part")
    start = root_in(words)
    end = root_in(words)
    acts = told_in_braces(words, number_in)
    return (start, end, (acts, told_in_braces(words, number_in)))


def chain_in_words(words):
    """A CHAIN, taken from the words."""
    words.take("chain")
    return told_in_braces(words, part_in)


def pays_in(words):
    """PAYS, taken from the words."""
    words.take("pays")
    return told_in_braces(words, act_in)


def shape_in(words):
    """A SHAPE, taken from the words."""
    words.take("shape")
    return told_in_braces(words, line_in)


def paper_in(words):
    """A PAPER, taken from the words."""
    if words.ahead() == "led":
        words.take("led")
        return ("led", told_in_braces(words, chain_in_words))
    words.take("out")
    wall = triple_in(words)
    return ("out", (wall, told_in_braces(words, fraction_in)))


def told_by(text, told_once):
    """What a whole text tells."""
    if not is_text(text):
        raise BadText(0, 0)
    words = Words(text)
    found = told_once(words)
    words.finish()
    return found


def read_pays(text):
    """The PAYS of a text."""
    return need_pays(told_by(text, pays_in))


def read_shape(text):
    """The shape of a text."""
    return need_shape(told_by(text, shape_in))


def read_chain(text):
    """The CHAIN of a text."""
    return need_chain(told_by(text, chain_in_words))


def read_paper(text):
    """The PAPER of a text."""
    return need_paper(told_by(text, paper_in))
