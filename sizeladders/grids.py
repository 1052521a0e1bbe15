"""Grids: sizes by length and by breadth, where the breadths grow with the length."""

from sizeladders.errors import NoLadder
from sizeladders.ladders import Ladder
from sizeladders.measures import Measure, is_measure_or_none, measure_or


class Grid:
    """A ladder of lengths, one of breadths, and the grade by which each size of length moves the breadths' marks."""

    def __init__(self, lengths, breadths, grade=None):
        if not isinstance(lengths, Ladder) or not isinstance(breadths, Ladder):
            raise NoLadder("lengths and breadths of a grid are Ladders")
        if not is_measure_or_none(grade):
            raise NoLadder("the grade of a grid is a Measure or None")
        self.lengths = lengths
        self.breadths = breadths
        self.grade = measure_or(grade, 0)

    def long_mark(self, pair):
        """The mark of the pair's length."""
        return self.lengths.marks[pair[0]]

    def broad_mark(self, pair):
        """The mark of the pair's breadth, graded by its length."""
        return self.breadths.marks[pair[1]].plus(self.graded(pair[0]))

    def graded(self, number):
        """By how much the breadths' marks are moved at this size of length."""
        return self.grade.times(Measure(number))

    def own(self, foot):
        """The pair of sizes to which a foot comes, or None where one of the two has none."""
        length, breadth = foot
        long = self.lengths.size(length)
        if long is None:
            return None
        broad = self.breadths.size(breadth.minus(self.graded(long)))
        if broad is None:
            return None
        return long, broad
