"""Words of texts: written, and taken one by one as they are wanted."""

from math import gcd

from withinshapes.errors import BadText, TooGreat

MOST_FIGURES = 400
# A text has no empty word, so this one tells that there are no more.
NO_WORD = ""


def number_word(number):
    """The N of an integer."""
    # Looked at as a number: Python writes none of too many figures.
    if abs(number) >= (10 ** 50) ** 8:
        raise TooGreat(MOST_FIGURES)
    return str(number)


def fraction_word(value):
    """The F of a FRACTION."""
    above, below = value
    if below == 1:
        return number_word(above)
    return number_word(above) + "/" + number_word(below)


def number_told(word):
    """The integer of which a word is the N, None if it is none."""
    figures = word[1:] if word.startswith("-") else word
    if len(figures) > MOST_FIGURES or not figures.isascii() or not figures.isdigit():
        return None
    if figures.startswith("0") and word != "0":
        return None
    return int(word)


def fraction_told(word):
    """The FRACTION of which a word is the F, None if it is none."""
    first, stroke, second = word.partition("/")
    above = number_told(first)
    if above is None:
        return None
    if stroke == "":
        return (above, 1)
    below = number_told(second)
    if below is None or below < 2 or gcd(above, below) != 1:
        return None
    return (above, below)


class Words:
    """The words of a text, in order; one that isn't wanted where it stands is refused with its place."""

    def __init__(self, text):
        self.words = []
        self.last = (0, 0)
        self.taken = 0
        for line, row in enumerate(text.split("\n")):
            found = [word for word in row.split(" ") if word != NO_WORD]
            self.words.extend([(word, line, number) for number, word in enumerate(found)])
            self.last = (line, len(found))

    def ahead(self):
        """The word that comes next, NO_WORD behind the last one."""
        if self.taken == len(self.words):
            return NO_WORD
        return self.words[self.taken][0]

    def refuse(self):
        """Refuses the word that comes next, or that none comes."""
        line, number = self.last
        if self.taken < len(self.words):
            _, line, number = self.words[self.taken]
        raise BadText(line, number)

    def take(self, wanted):
        """Takes the one word that is wanted."""
        if self.ahead() != wanted:
            self.refuse()
        self.taken += 1

    def take_number(self):
        """Takes an N, and tells its integer."""
        found = number_told(self.ahead())
        if found is None:
            self.refuse()
        self.taken += 1
        return found

    def take_fraction(self):
        """Takes an F, and tells its FRACTION."""
        found = fraction_told(self.ahead())
        if found is None:
            self.refuse()
        self.taken += 1
        return found

    def finish(self):
        """Refuses a word behind all that is wanted."""
        if self.taken < len(self.words):
            self.refuse()
