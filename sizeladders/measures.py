"""Measures: exact fractions, with their texts and how they are read back."""

from sizeladders.errors import NoBottom, NoMeasure
from sizeladders.kinds import is_whole

FIGURES = "0123456789"
MOST_FIGURES = 12


def common_part(one, other):
    """The greatest whole number that parts both without rest, by Euclid's way."""
    great, small = abs(one), abs(other)
    while small > 0:
        great, small = small, great % small
    return great


def written(top, bottom):
    """The text of a fraction in lowest terms that is not below nought."""
    whole, rest = divmod(top, bottom)
    if rest == 0:
        return f"{whole}"
    if whole == 0:
        return f"{rest}/{bottom}"
    return f"{whole} {rest}/{bottom}"


class Measure:
    """A fraction top / bottom in lowest terms, its bottom above 0."""

    def __init__(self, top, bottom=1):
        if not is_whole(top) or not is_whole(bottom):
            raise NoMeasure("top and bottom of a measure are whole numbers")
        if bottom == 0:
            raise NoBottom("the bottom of a measure is not 0")
        common = common_part(top, bottom)
        if bottom < 0:
            common = -common
        self.top = top // common
        self.bottom = bottom // common

    def __eq__(self, other):
        return isinstance(other, Measure) and self.top == other.top and self.bottom == other.bottom

    def __str__(self):
        if self.top < 0:
            return f"-{written(-self.top, self.bottom)}"
        return f"{written(self.top, self.bottom)}"

    def __repr__(self):
        return f"Measure({self.top}, {self.bottom})"

    def plus(self, other):
        """The sum of both."""
        return Measure(self.top * other.bottom + other.top * self.bottom, self.bottom * other.bottom)

    def minus(self, other):
        """This one less the other one."""
        return Measure(self.top * other.bottom - other.top * self.bottom, self.bottom * other.bottom)

    def times(self, other):
        """The product of both."""
        return Measure(self.top * other.top, self.bottom * other.bottom)

    def parted(self, many=2):
        """This one by many, a whole number but 0."""
        return Measure(self.top, self.bottom * many)

    def is_below(self, other, alike=False):
        """Whether this one is less than the other one, or with alike True less or the same."""
        here = self.top * other.bottom
        there = other.top * self.bottom
        return here < there or (alike and here == there)


def is_measure_or_none(thing):
    """Whether thing is a Measure or None."""
    return thing is None or isinstance(thing, Measure)


def measure_or(thing, number):
    """thing, or the Measure of this whole number where it is None."""
    if thing is None:
        return Measure(number)
    return thing


def number_words(text):
    """The words of text, which has no sign, at the places of whole part, top and bottom."""
    if "/" not in text:
        return text, "0", "1"
    whole, blank, part = text.rpartition(" ")
    top, slash, bottom = part.partition("/")
    if blank == "":
        return "0", top, bottom
    return whole, top, bottom


def is_number_word(word):
    """Whether word is made of figures, and of no more than may stand in a text."""
    # The length comes first: Python itself refuses to read numbers of thousands of figures.
    return 1 <= len(word) <= MOST_FIGURES and all([figure in FIGURES for figure in word])


def loosely_read(text):
    """The Measure that text comes to, in lowest terms or not, or None."""
    words = number_words(text.removeprefix("-"))
    if not all([is_number_word(word) for word in words]):
        return None
    whole, top, bottom = [int(word) for word in words]
    if bottom == 0:
        return None
    measure = Measure(whole * bottom + top, bottom)
    if text.startswith("-"):
        return measure.times(Measure(-1))
    return measure


def measure_in(text):
    """The Measure whose str text is, each number in it of at most twelve figures, or None."""
    measure = loosely_read(text)
    # Only the measure's own str counts, so one comparison refuses every other way to write it.
    if measure is None or str(measure) != text:
        return None
    return measure


def read_measure(text):
    """The Measure whose str text is, each number in it of at most twelve figures."""
    if not isinstance(text, str):
        raise NoMeasure("a measure is read from a text only")
    measure = measure_in(text)
    if measure is None:
        raise NoMeasure("the text is no measure's own")
    return measure
