"""Ladders: the marks of a land's sizes, the rule by which a measure comes to one, and the measures of each size."""

from sizeladders.errors import NoLadder, NoSize, Slip
from sizeladders.kinds import is_whole
from sizeladders.measures import Measure, is_measure_or_none
from sizeladders.slips import slip_of
from sizeladders.stretches import Stretch

MOST_MARKS = 24
RULES = ("up", "down", "near")


def are_marks(thing):
    """Whether thing is a tuple of as many Measures as a ladder may have, rising or not."""
    if not isinstance(thing, tuple) or not 1 <= len(thing) <= MOST_MARKS:
        return False
    return all([isinstance(mark, Measure) for mark in thing])


def is_rule(thing):
    """Whether thing is the name of a rule."""
    return isinstance(thing, str) and thing in RULES


def is_span(least, most):
    """Whether least isn't above most where there are both."""
    return least is None or most is None or least.is_below(most, True)


def midsts_of(marks):
    """The measures in the midst of each two neighbours."""
    return [marks[at - 1].plus(marks[at]).parted() for at in range(1, len(marks))]


def size_by_rule(marks, rule, measure):
    """The number of the size that measure comes to by the rule alone; beyond the sizes where it comes to none."""
    if rule == "up":
        return len([mark for mark in marks if mark.is_below(measure)])
    if rule == "down":
        return len([mark for mark in marks if mark.is_below(measure, True)]) - 1
    return len([midst for midst in midsts_of(marks) if midst.is_below(measure, True)])


def end_at(ends, at):
    """The end of a stretch that stands there, or None beyond them."""
    if 0 <= at < len(ends):
        return ends[at]
    return None


def stretch_by_rule(marks, rule, number):
    """The Stretch of the measures that come to a size by the rule alone."""
    if rule == "up":
        return Stretch(end_at(marks, number - 1), marks[number])
    if rule == "down":
        return Stretch(marks[number], end_at(marks, number + 1), True, False)
    midsts = midsts_of(marks)
    return Stretch(end_at(midsts, number - 1), end_at(midsts, number), True, False)


def has_size(ladder, thing):
    """Whether thing is the number of a size of the ladder."""
    return is_whole(thing) and 0 <= thing < len(ladder.marks)


def bound_text(word, bound):
    """What stands behind the marks in a ladder's text where there is such a bound."""
    if bound is None:
        return ""
    return f" {word} {bound}"


class Ladder:
    """A mark for each size, from size 0 on; a rule; and the least and the most measure that has a size, or None."""

    def __init__(self, marks, rule="up", least=None, most=None):
        if not are_marks(marks):
            raise NoLadder("the marks of a ladder are a tuple of 1 to 24 Measures")
        if not is_rule(rule):
            raise NoLadder("the rule of a ladder is up, down or near")
        if not is_measure_or_none(least) or not is_measure_or_none(most):
            raise NoLadder("least and most of a ladder are Measures or None")
        if not is_span(least, most):
            raise NoLadder("the least of a ladder is not above its most")
        slip = slip_of(marks)
        if slip is not None:
            raise Slip(slip)
        self.marks = marks
        self.rule = rule
        self.least = least
        self.most = most

    def __eq__(self, other):
        return (isinstance(other, Ladder) and self.marks == other.marks and self.rule == other.rule
                and self.least == other.least and self.most == other.most)

    def __str__(self):
        return "".join([self.rule, ": ", ", ".join([str(mark) for mark in self.marks]),
                        bound_text("from", self.least), bound_text("to", self.most)])

    def __repr__(self):
        return f"Ladder({self.marks!r}, {self.rule!r}, {self.least!r}, {self.most!r})"

    def __len__(self):
        return len(self.marks)

    def size(self, measure):
        """The number of the size that measure comes to, or None."""
        if self.least is not None and measure.is_below(self.least):
            return None
        if self.most is not None and self.most.is_below(measure):
            return None
        number = size_by_rule(self.marks, self.rule, measure)
        if 0 <= number < len(self.marks):
            return number
        return None

    def stretch(self, number):
        """The Stretch of the measures that come to size number, or None where none does."""
        if not has_size(self, number):
            raise NoSize(number)
        bounds = Stretch(self.least, self.most, True, True)
        return stretch_by_rule(self.marks, self.rule, number).cut(bounds)


def even(first, step, many, rule="up", least=None, most=None):
    """The Ladder of many marks: first, first plus step, and on."""
    marks = [first.plus(step.times(Measure(at))) for at in range(many)]
    return Ladder(tuple(marks), rule, least, most)
