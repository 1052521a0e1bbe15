"""Points 2 and 14: grids, their marks, and a foot's own pair."""

import itertools
import unittest
from fractions import Fraction

from sizeladders.errors import NoLadder
from sizeladders.grids import Grid
from sizeladders.ladders import Ladder, even
from sizeladders.measures import Measure
from tests.things import (LooksLikeLadder, LooksLikeMeasure, Touchy, a_grid, anything, fraction_of, measure_of, refusal_of)
from tests.words import TINY, ladder_of, marks_of, plain_of, points_of, size_of

NOUGHT, HALF, ONE = Measure(0), Measure(1, 2), Measure(1)
# (lengths, breadths, grade): of all rules, with and without ends, graded up, down and not at all.
GRIDS = [
    ((marks_of(3, 4, 5), "up", None, None), (marks_of(1, 2), "up", None, None), Fraction(0)),
    ((marks_of(3, 4, 5), "up", None, None), (marks_of(1, 2), "near", None, None), Fraction(1, 4)),
    ((marks_of(3, 4, 5), "down", None, None), (marks_of(1, "3/2", 2), "down", None, None), Fraction(-1, 3)),
    ((marks_of(3, 4, 5), "near", Fraction(3), Fraction(5)), (marks_of(1, 2), "up", Fraction(1), Fraction(2)), Fraction(1)),
    ((marks_of(3, 9), "down", None, Fraction(20)), (marks_of(-2, 0, 5), "near", Fraction(-2), None), Fraction(-5)),
    ((marks_of(4,), "near", None, None), (marks_of(4,), "near", None, None), Fraction(7)),
    ((marks_of(1, 2), "up", Fraction(5), Fraction(6)), (marks_of(1, 2), "near", None, None), Fraction(1)),
]


def grid_of(lengths, breadths, grade):
    return Grid(ladder_of(lengths), ladder_of(breadths), measure_of(grade))


def pairs_of(lengths, breadths, grade):
    return list(itertools.product(range(len(lengths[0])), range(len(breadths[0]))))


def own_of(lengths, breadths, grade, length, breadth):
    """The foot's own pair, by the document's words."""
    k = size_of(lengths, length)
    w = None if k is None else size_of(breadths, breadth - k * grade)
    return None if w is None else (k, w)


class MakingGrids(unittest.TestCase):
    def test_by_place_by_name_and_left_out(self):
        lengths, breadths = even(Measure(3), ONE, 3), even(ONE, HALF, 4, "near", ONE, Measure(9))
        for made in [Grid(lengths, breadths), Grid(lengths, breadths, None), Grid(lengths, breadths, grade=None),
                     Grid(breadths=breadths, lengths=lengths), Grid(lengths, breadths, NOUGHT),
                     Grid(grade=None, breadths=breadths, lengths=lengths), Grid(lengths, breadths, grade=NOUGHT)]:
            self.same(made, lengths, breadths, NOUGHT)
        for grade in [HALF, Measure(-1, 3), Measure(10 ** 300)]:
            for made in [Grid(lengths, breadths, grade), Grid(lengths, breadths, grade=grade),
                         Grid(grade=grade, lengths=lengths, breadths=breadths)]:
                self.same(made, lengths, breadths, grade)
        self.same(Grid(breadths, lengths), breadths, lengths, NOUGHT)
        self.same(Grid(lengths, lengths, ONE), lengths, lengths, ONE)

    def same(self, made, lengths, breadths, grade):
        self.assertIs(type(made), Grid)
        self.assertEqual((made.lengths, made.breadths, made.grade), (lengths, breadths, grade))
        self.assertEqual([type(made.lengths), type(made.breadths), type(made.grade)], [Ladder, Ladder, Measure])

    def refused(self, *things):
        error = refusal_of(lambda: Grid(*things))
        self.assertIs(type(error), NoLadder, things)
        self.assertIsInstance(error, ValueError)

    def test_of_anything(self):
        ladder = even(Measure(3), ONE, 3)
        for thing in anything() + [a_grid(), LooksLikeLadder(ladder.marks), LooksLikeMeasure(1, 1), ladder.marks, Touchy()]:
            if type(thing) is not Ladder:
                self.refused(thing, ladder)
                self.refused(ladder, thing)
                self.refused(thing, thing)
                self.refused(thing, ladder, ONE)
                self.refused(ladder, thing, ONE)
            if type(thing) is not Measure and thing is not None:
                self.refused(ladder, ladder, thing)
                self.refused(thing, thing, thing)
        self.refused(None, None, None)
        self.refused(ladder, ladder, ladder)
        self.refused(ladder, ladder, 0)
        self.refused(ladder, ladder, False)
        self.refused(ladder, ONE, ladder)
        self.refused(ladder, None)


class MarksAndOwnPairs(unittest.TestCase):
    def test_marks_of_all_pairs(self):
        for line in GRIDS:
            grid, (lengths, breadths, grade) = grid_of(*line), line
            for k, w in pairs_of(*line):
                for long, broad in [(grid.long_mark((k, w)), grid.broad_mark((k, w))),
                                    (grid.long_mark(pair=(k, w)), grid.broad_mark(pair=(k, w)))]:
                    self.assertEqual([type(long), type(broad)], [Measure, Measure])
                    self.assertEqual(fraction_of(long), lengths[0][k])
                    self.assertEqual(fraction_of(broad), breadths[0][w] + k * grade)

    def test_own_beside_the_document_s_words(self):
        none = some = 0
        for line in GRIDS:
            grid, (lengths, breadths, grade) = grid_of(*line), line
            points = sorted({point + k * grade for point in points_of(breadths) for k in range(len(lengths[0]))})
            for length, breadth in itertools.product(points_of(lengths), points):
                foot = (measure_of(length), measure_of(breadth))
                told, meant = grid.own(foot), own_of(*line, length, breadth)
                self.assertEqual(told, meant, (line, foot))
                none += meant is None
                some += meant is not None
                if meant is not None:
                    self.assertEqual([type(told), type(told[0]), type(told[1])], [tuple, int, int])
        self.assertGreater(min(none, some), 1000)

    def test_told_ones(self):
        lengths, breadths = even(Measure(3), ONE, 3), Ladder((ONE, Measure(2)), "up", HALF, Measure(2))
        grid, tiny = Grid(lengths, breadths, Measure(1, 4)), measure_of(TINY)
        self.assertEqual(grid.long_mark((2, 1)), Measure(5))
        self.assertEqual(grid.broad_mark((2, 1)), Measure(5, 2))
        self.assertEqual(grid.broad_mark((0, 1)), Measure(2))
        self.assertEqual(grid.own((Measure(3), ONE)), (0, 0))
        self.assertEqual(grid.own(foot=(Measure(3), ONE)), (0, 0))
        self.assertEqual(grid.own((Measure(4), ONE)), (1, 0))
        self.assertEqual(grid.own((Measure(4), Measure(5, 4))), (1, 0))
        self.assertEqual(grid.own((Measure(4), Measure(5, 4).plus(tiny))), (1, 1))
        self.assertEqual(grid.own((Measure(4).plus(tiny), Measure(5, 4).plus(tiny))), (2, 0))
        # Above the last mark of lengths; below the least of breadths, which the grade moves; above their most.
        self.assertIsNone(grid.own((Measure(5).plus(tiny), ONE)))
        self.assertEqual(grid.own((Measure(5), ONE)), (2, 0))
        self.assertIsNone(grid.own((Measure(5), ONE.minus(tiny))))
        self.assertEqual(grid.own((Measure(4), ONE.minus(tiny))), (1, 0))
        self.assertEqual(grid.own((Measure(5), Measure(5, 2))), (2, 1))
        self.assertIsNone(grid.own((Measure(5), Measure(5, 2).plus(tiny))))
        self.assertIsNone(grid.own((Measure(6), Measure(50))))

    def test_great_and_fine(self):
        great, fine = Measure(10 ** 300), Measure(1, 10 ** 300)
        grid = Grid(even(great, fine, 24), even(great, fine, 24), fine)
        self.assertEqual(grid.broad_mark((23, 23)), great.plus(fine.times(Measure(46))))
        self.assertEqual(grid.own((grid.long_mark((23, 5)), grid.broad_mark((23, 5)))), (23, 5))
        for pair in itertools.product([0, 7, 23], [0, 7, 23]):
            self.assertEqual(grid.own((grid.long_mark(pair), grid.broad_mark(pair))), pair)

    def test_asked_again_the_same_is_told_and_nothing_changes(self):
        for line in GRIDS:
            grid = grid_of(*line)
            foot = (Measure(4), Measure(3, 2))
            for unused in range(3):
                self.assertEqual(grid.own(foot), own_of(*line, Fraction(4), Fraction(3, 2)))
                self.assertEqual(grid.long_mark((0, 0)), grid.lengths.marks[0])
                self.assertEqual(grid.broad_mark((0, 0)), grid.breadths.marks[0])
            self.assertEqual((plain_of(grid.lengths), plain_of(grid.breadths), fraction_of(grid.grade)), line)
            self.assertEqual(foot, (Measure(4), Measure(3, 2)))


if __name__ == "__main__":
    unittest.main()
