"""Points 2, 3 (e) and 13: sizes that fit a foot, and the fewest that fit told feet."""

import itertools
import random
import unittest
from fractions import Fraction

from sizeladders.ladders import Ladder, even
from sizeladders.measures import Measure
from sizeladders.stock import fits, stock_for
from tests.stockwords import NEVER, SMALL, are_apart, fits_of, fitting_of, is_fitted, is_right, made_of
from tests.things import measure_of
from tests.words import TINY, marks_of

NOUGHT, HALF, ONE, TWO = Measure(0), Measure(1, 2), Measure(1), Measure(2)


class SizesThatFitAFoot(unittest.TestCase):
    def test_beside_the_document_s_words(self):
        seen = set()
        for marks in [marks_of(1, 2, 3, 4), marks_of(1, "3/2", 4, "9/2", 9), marks_of(-3, 0, 3), marks_of(2,)]:
            ladder = made_of(marks, (), 0, 0)[0]
            lets = [Fraction(let) for let in ["0", "1/3", "1/2", "1", "3", "100"]]
            for slack, tight in itertools.product(lets, lets):
                feet = {mark + let + step for mark in marks for let in [0, tight, -slack] for step in [0, TINY, -TINY]}
                for foot in feet:
                    told = fits(ladder, measure_of(foot), measure_of(slack), measure_of(tight))
                    self.assertIs(type(told), tuple)
                    self.assertEqual(told, fits_of(marks, foot, slack, tight), (marks, foot, slack, tight))
                    seen.add(len(told))
        self.assertEqual(seen, {0, 1, 2, 3, 4, 5})

    def test_at_marks_with_nothing_let(self):
        ladder = even(Measure(3), ONE, 4)
        for number, mark in enumerate(ladder.marks):
            self.assertEqual(fits(ladder, mark, NOUGHT), (number,))
            self.assertEqual(fits(ladder, mark, NOUGHT, NOUGHT), (number,))
            self.assertEqual(fits(ladder, mark.plus(measure_of(TINY)), NOUGHT), ())
            self.assertEqual(fits(ladder, mark.minus(measure_of(TINY)), NOUGHT), ())

    def test_as_far_as_is_just_let(self):
        ladder, tiny = even(Measure(3), ONE, 4), measure_of(TINY)
        self.assertEqual(fits(ladder, Measure(7, 2), HALF), (1,))
        self.assertEqual(fits(ladder, Measure(7, 2), HALF.minus(tiny)), ())
        self.assertEqual(fits(ladder, Measure(7, 2), HALF.minus(tiny), HALF), (0,))
        self.assertEqual(fits(ladder, Measure(7, 2), HALF, HALF), (0, 1))
        self.assertEqual(fits(ladder, Measure(7, 2), HALF.minus(tiny), HALF.minus(tiny)), ())
        self.assertEqual(fits(ladder, Measure(7, 2).plus(tiny), HALF, HALF), (1,))
        self.assertEqual(fits(ladder, Measure(7, 2).minus(tiny), HALF, HALF), (0,))
        # A gap of the ladder, and more.
        self.assertEqual(fits(ladder, Measure(4), ONE), (1, 2))
        self.assertEqual(fits(ladder, Measure(4), NOUGHT, ONE), (0, 1))
        self.assertEqual(fits(ladder, Measure(4), ONE, ONE), (0, 1, 2))
        self.assertEqual(fits(ladder, Measure(4), TWO), (1, 2, 3))
        self.assertEqual(fits(ladder, Measure(4), Measure(100), Measure(100)), (0, 1, 2, 3))
        self.assertEqual(fits(ladder, Measure(2), ONE), (0,))
        self.assertEqual(fits(ladder, Measure(2), ONE.minus(tiny)), ())
        self.assertEqual(fits(ladder, Measure(7), TWO, ONE), (3,))
        self.assertEqual(fits(ladder, Measure(7), TWO), ())

    def test_tight_left_out_none_by_place_and_by_name(self):
        ladder, foot = even(Measure(3), ONE, 4), Measure(4)
        for told in [fits(ladder, foot, ONE), fits(ladder, foot, ONE, None), fits(ladder, foot, ONE, NOUGHT),
                     fits(ladder, foot, ONE, tight=None), fits(ladder, foot, slack=ONE),
                     fits(slack=ONE, foot=foot, ladder=ladder), fits(tight=None, slack=ONE, foot=foot, ladder=ladder)]:
            self.assertEqual(told, (1, 2))
        for told in [fits(ladder, foot, NOUGHT, ONE), fits(ladder, foot, NOUGHT, tight=ONE),
                     fits(tight=ONE, slack=NOUGHT, foot=foot, ladder=ladder)]:
            self.assertEqual(told, (0, 1))

    def test_rule_least_and_most_change_nothing(self):
        marks = even(Measure(3), ONE, 4).marks
        for rule, (least, most) in itertools.product(["up", "down", "near"], [
                (None, None), (Measure(5), None), (None, Measure(3)), (Measure(50), Measure(51)), (Measure(4), Measure(4))]):
            ladder = Ladder(marks, rule, least, most)
            self.assertEqual(fits(ladder, Measure(4), ONE, ONE), (0, 1, 2))
            self.assertEqual(fits(ladder, Measure(9, 2), HALF), (2,))
            self.assertEqual(fits(ladder, Measure(9, 2), NOUGHT, HALF), (1,))
            self.assertEqual(stock_for(ladder, marks, ONE), stock_for(Ladder(marks), marks, ONE))
            self.assertEqual(stock_for(ladder, (Measure(9),), ONE), ("never", 0))

    def test_many_marks(self):
        ladder = even(Measure(-5), Measure(1, 3), 24, "near")
        self.assertEqual(fits(ladder, NOUGHT, Measure(100), Measure(100)), tuple(range(24)))
        self.assertEqual(fits(ladder, NOUGHT, ONE, ONE), tuple(range(12, 19)))
        great = Measure(10 ** 300)
        self.assertEqual(fits(even(great, Measure(1, 10 ** 300), 24), great, Measure(2, 10 ** 300)), (0, 1, 2))


class TheFewestSizes(unittest.TestCase):
    def test_small_ones_beside_all_lots_of_sizes(self):
        for line in SMALL:
            self.assertNotIn((), fitting_of(*line))
            told = stock_for(*made_of(*line))
            self.assertEqual(told[0], "stock")
            self.assertTrue(is_right(*line, told), (line, told))

    def test_feet_in_any_order(self):
        for marks, feet, slack, tight in SMALL:
            many = set()
            for order in itertools.islice(itertools.permutations(feet), 150):
                told = stock_for(*made_of(marks, order, slack, tight))
                self.assertTrue(is_right(marks, order, slack, tight, told), (marks, order, told))
                many.add(len(told[1]))
            self.assertEqual(len(many), 1)

    def test_drawn_ones(self):
        draw = random.Random(13)
        seen = {"stock": 0, "never": 0}
        for unused in range(600):
            marks = tuple(sorted({Fraction(draw.randint(0, 24), 2) for each in range(draw.randint(1, 8))}))
            feet = tuple(Fraction(draw.randint(0, 24), 2) for each in range(draw.randint(1, 8)))
            slack, tight = Fraction(draw.randint(0, 6), 2), Fraction(draw.randint(0, 6), 2)
            told = stock_for(*made_of(marks, feet, slack, tight))
            self.assertTrue(is_right(marks, feet, slack, tight, told), (marks, feet, slack, tight, told))
            seen[told[0]] += 1
        self.assertGreater(min(seen.values()), 100)

    def test_never(self):
        for line in NEVER:
            self.assertEqual(stock_for(*made_of(*line)), ("never", line[-1]))
            self.assertTrue(is_right(*line[:4], ("never", line[-1])))

    def test_told_ones(self):
        ladder = even(ONE, ONE, 6)
        feet = tuple(Measure(number) for number in [1, 2, 3, 4, 5, 6])
        self.assertEqual(stock_for(ladder, feet, NOUGHT), ("stock", (0, 1, 2, 3, 4, 5), (0, 1, 2, 3, 4, 5)))
        self.assertEqual(len(stock_for(ladder, feet, ONE)[1]), 3)
        self.assertEqual(stock_for(ladder, feet, ONE, ONE)[1], (1, 4))
        self.assertEqual(stock_for(ladder, (Measure(3),) * 24, NOUGHT)[1], (2,))
        self.assertEqual(len(stock_for(ladder, (Measure(3),) * 24, NOUGHT)[2]), 1)
        self.assertEqual(stock_for(ladder, (Measure(3),), NOUGHT), ("stock", (2,), (0,)))
        self.assertEqual(stock_for(ladder, (Measure(7, 2),), HALF), ("stock", (3,), (0,)))
        self.assertEqual(stock_for(ladder, (Measure(7, 2),), Measure(1, 3)), ("never", 0))

    def test_many_feet_and_many_marks(self):
        draw = random.Random(24)
        marks = tuple(Fraction(number, 2) for number in range(24))
        for unused in range(60):
            feet = tuple(Fraction(draw.randint(0, 46), 4) for each in range(24))
            slack, tight = Fraction(draw.randint(1, 8), 4), Fraction(draw.randint(1, 8), 4)
            word, sizes, apart = stock_for(*made_of(marks, feet, slack, tight))
            fitting = fitting_of(marks, feet, slack, tight)
            self.assertEqual((word, len(sizes)), ("stock", len(apart)))
            self.assertEqual((sizes, apart), (tuple(sorted(set(sizes))), tuple(sorted(set(apart)))))
            # As many feet apart as sizes: so there can't be fewer, whatever lots one looks through.
            self.assertTrue(is_fitted(sizes, fitting) and are_apart(apart, fitting))
        ladder = made_of(marks, (), 0, 0)[0]
        self.assertEqual(stock_for(ladder, ladder.marks, NOUGHT), ("stock", tuple(range(24)), tuple(range(24))))
        self.assertEqual(stock_for(ladder, ladder.marks[::-1], NOUGHT), ("stock", tuple(range(24)), tuple(range(24))))
        self.assertEqual(stock_for(ladder, ladder.marks[:23] + (Measure(12),), NOUGHT), ("never", 23))

    def test_tight_left_out_none_by_place_and_by_name(self):
        ladder, feet = even(ONE, ONE, 4), (ONE, TWO)
        for told in [stock_for(ladder, feet, ONE), stock_for(ladder, feet, ONE, None), stock_for(ladder, feet, ONE, NOUGHT),
                     stock_for(ladder, feet, ONE, tight=None), stock_for(slack=ONE, feet=feet, ladder=ladder),
                     stock_for(tight=None, slack=ONE, feet=feet, ladder=ladder)]:
            self.assertEqual(told[:2], ("stock", (1,)))
        for told in [stock_for(ladder, (TWO, Measure(5)), NOUGHT, ONE), stock_for(ladder, (TWO, Measure(5)), NOUGHT, tight=ONE),
                     stock_for(tight=ONE, slack=NOUGHT, feet=(TWO, Measure(5)), ladder=ladder)]:
            self.assertEqual((told[0], len(told[1]), told[1][-1], told[2]), ("stock", 2, 3, (0, 1)))

    def test_kinds(self):
        told = stock_for(even(ONE, ONE, 4), (ONE, TWO), NOUGHT)
        self.assertEqual([type(part) for part in told], [str, tuple, tuple])
        self.assertEqual({type(part) for part in told[1] + told[2]}, {int})
        told = stock_for(even(ONE, ONE, 4), (ONE, HALF), NOUGHT)
        self.assertEqual([type(part) for part in told], [str, int])

    def test_somewhat_more_feet_than_told(self):
        ladder = even(ONE, ONE, 4)
        self.assertEqual(stock_for(ladder, (ONE,) * 30, NOUGHT)[1], (0,))
        self.assertEqual(stock_for(ladder, (), NOUGHT), ("stock", (), ()))

    def test_asked_again_the_same_is_told_and_nothing_changes(self):
        for line in SMALL + NEVER:
            asked = made_of(*line)
            first = stock_for(*asked)
            for unused in range(2):
                self.assertEqual(stock_for(*asked), first)
                self.assertEqual(fits(asked[0], asked[1][0], *asked[2:]), fits_of(line[0], line[1][0], *line[2:4]))
            self.assertEqual(asked, made_of(*line))


if __name__ == "__main__":
    unittest.main()
