"""All errors of the program; each bears what it was made with as attributes."""


class ShapeError(ValueError):
    """What all errors of the program are."""


class BadPays(ShapeError):
    """No PAYS: place is () for the whole, (I,) for an act, (I, J) for a pair of it."""

    def __init__(self, place):
        self.place = place


class BadShape(ShapeError):
    """No shape: place is () for the whole, (I,) for a line."""

    def __init__(self, place):
        self.place = place


class BadPoint(ShapeError):
    """The value is no POINT."""

    def __init__(self, value):
        self.value = value


class BadDice(ShapeError):
    """The value is no DICE."""

    def __init__(self, value):
        self.value = value


class BadOdds(ShapeError):
    """The value is no ODDS."""

    def __init__(self, value):
        self.value = value


class BadGame(ShapeError):
    """No GAME: place is () for the whole, (I,) for an act, (I, J) for a number of it."""

    def __init__(self, place):
        self.place = place


class BadPoly(ShapeError):
    """The value is no POLY that is asked for."""

    def __init__(self, value):
        self.value = value


class BadText(ShapeError):
    """The text goes wrong at a word: the number of its line, and its number there."""

    def __init__(self, line, word):
        self.line = line
        self.word = word


class BadDeed(ShapeError):
    """No state or no deed: place tells the part of the state, () the whole."""

    def __init__(self, place):
        self.place = place


class BadParameter(ShapeError):
    """The value is not what its parameter asks for."""

    def __init__(self, value):
        self.value = value


class NoDice(ShapeError):
    """No DICE do: by the odds each act pays too much."""

    def __init__(self, odds):
        self.odds = odds


class NoRow(ShapeError):
    """There is nothing of the kind that is asked for."""


class TooGreat(ShapeError):
    """A told number is greater than most."""

    def __init__(self, most):
        self.most = most
