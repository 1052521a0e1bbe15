"""The errors of the program, one class for each kind of refusal.

The messages are fixed texts: what was handed in may be anything, and not
everything can be written out (a number of too many figures can not).
"""


class LadderError(ValueError):
    """Something handed in is not of the form that is told for it."""


class NoMeasure(LadderError):
    """Made with a text: this is no measure."""


class NoStretch(LadderError):
    """Made with a text: this is no stretch."""


class NoLadder(LadderError):
    """Made with a text: this is no ladder, no grid, or nothing to tell a book."""


class NoLine(LadderError):
    """Made with a text: this is no line for a desk."""


class Slip(LadderError):
    """Marks do not rise; row is the first whose mark is not above the one ahead."""

    def __init__(self, row):
        super().__init__("the marks do not rise")
        self.row = row


class NoText(LadderError):
    """A text is not so written; row is its wrong row, why says what is wrong there."""

    def __init__(self, row, why="form"):
        super().__init__("the text can not be read")
        self.row = row
        self.why = why


class LandError(LookupError):
    """Something asked for is not there, or is there already."""


class NoSize(LandError):
    """There is no such size; number is what was handed in."""

    def __init__(self, number):
        super().__init__("there is no such size")
        self.number = number


class NoLand(LandError):
    """No such land stands; name is what was handed in."""

    def __init__(self, name):
        super().__init__("no such land stands")
        self.name = name


class LandTwice(LandError):
    """That land stands already; name is what was handed in."""

    def __init__(self, name):
        super().__init__("that land stands already")
        self.name = name


class NoBottom(ZeroDivisionError):
    """Made with a text: the bottom of a fraction is 0."""


class NothingBack(IndexError):
    """Made with a text: nothing is left to undo."""
