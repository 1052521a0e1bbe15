"""Stretches: all measures between two ends, each end in or not, or missing."""

from sizeladders.errors import NoStretch
from sizeladders.measures import Measure, is_measure_or_none


def is_empty(low, high, low_in, high_in):
    """Whether no measure lies between these ends."""
    if low is None or high is None:
        return False
    if low == high:
        return not (low_in and high_in)
    return high.is_below(low)


def end_text(end):
    """The text of an end of a stretch."""
    if end is None:
        return ".."
    return str(end)


def cut_low(one, other):
    """The low end of what is in both stretches, and whether it is in."""
    if one.low is None:
        return other.low, other.low_in
    if other.low is None or other.low.is_below(one.low):
        return one.low, one.low_in
    if one.low.is_below(other.low):
        return other.low, other.low_in
    return one.low, one.low_in and other.low_in


def cut_high(one, other):
    """The high end of what is in both stretches, and whether it is in."""
    if one.high is None:
        return other.high, other.high_in
    if other.high is None or one.high.is_below(other.high):
        return one.high, one.high_in
    if other.high.is_below(one.high):
        return other.high, other.high_in
    return one.high, one.high_in and other.high_in


def some_measure(stretch):
    """A Measure that is in the stretch; an end that is in it where there is one."""
    if stretch.low_in:
        return stretch.low
    if stretch.high_in:
        return stretch.high
    if stretch.low is None and stretch.high is None:
        return Measure(0)
    if stretch.low is None:
        return stretch.high.minus(Measure(1))
    if stretch.high is None:
        return stretch.low.plus(Measure(1))
    return stretch.low.plus(stretch.high).parted()


class Stretch:
    """All measures from low to high; None is no end on that side."""

    def __init__(self, low, high, low_in=False, high_in=True):
        if not is_measure_or_none(low) or not is_measure_or_none(high):
            raise NoStretch("an end of a stretch is a Measure or None")
        if not isinstance(low_in, bool) or not isinstance(high_in, bool):
            raise NoStretch("whether an end is in is True or False")
        if is_empty(low, high, low_in, high_in):
            raise NoStretch("no measure is in the stretch")
        self.low = low
        self.high = high
        # Kept False beside None, so that stretches of the same measures are alike.
        self.low_in = low_in and low is not None
        self.high_in = high_in and high is not None

    def __eq__(self, other):
        return (isinstance(other, Stretch) and self.low == other.low and self.high == other.high
                and self.low_in == other.low_in and self.high_in == other.high_in)

    def __str__(self):
        return "".join(["[" if self.low_in else "(", end_text(self.low), ", ",
                        end_text(self.high), "]" if self.high_in else ")"])

    def __repr__(self):
        return f"Stretch({self.low!r}, {self.high!r}, {self.low_in}, {self.high_in})"

    def holds(self, measure):
        """Whether measure is in the stretch."""
        if self.low is not None and not self.low.is_below(measure, self.low_in):
            return False
        return self.high is None or measure.is_below(self.high, self.high_in)

    def meets(self, other):
        """Whether some measure is in both stretches."""
        return self.cut(other) is not None

    def shared(self, other):
        """A Measure that is in both stretches, or None."""
        both = self.cut(other)
        if both is None:
            return None
        return some_measure(both)

    def cut(self, other):
        """The Stretch of all measures that are in both, or None."""
        low, low_in = cut_low(self, other)
        high, high_in = cut_high(self, other)
        if is_empty(low, high, low_in, high_in):
            return None
        return Stretch(low, high, low_in, high_in)
