"""Points 1 to 3 and 5: stretches, looked at measure by measure."""

import itertools
import unittest
from fractions import Fraction

from sizeladders.errors import NoStretch
from sizeladders.measures import Measure
from sizeladders.stretches import Stretch
from tests.things import (LooksLikeStretch, fraction_of, measure_of, no_ends, no_truths, other_things, refusal_of)

TRUTHS = [False, True]
# Some below nought and some that are no whole numbers, so that no order but the true one fits.
ENDS = [Fraction(-3, 2), Fraction(-1), Fraction(1, 3), Fraction(2)]
# A measure at each end, just beside each, between each two and beyond them all.
TINY = Fraction(1, 10 ** 30)
POINTS = sorted({end + step for end in ENDS for step in [Fraction(0), TINY, -TINY, Fraction(1, 5), Fraction(-1, 5)]}
                | {(one + other) / 2 for one in ENDS for other in ENDS}
                | {Fraction(-10 ** 30), Fraction(10 ** 30), Fraction(0), Fraction(-5), Fraction(5)})


def is_in(point, low, high, low_in, high_in):
    """Whether point lies between these ends, by the document's words."""
    above = low is None or low < point or (low == point and low_in)
    below = high is None or point < high or (high == point and high_in)
    return above and below


def end_of(fraction):
    return None if fraction is None else measure_of(fraction)


def made_of(low, high, low_in, high_in):
    return Stretch(end_of(low), end_of(high), low_in, high_in)


def four_of(stretch):
    """The four values of a stretch, measures as fractions."""
    low, high = [None if end is None else fraction_of(end) for end in [stretch.low, stretch.high]]
    return low, high, stretch.low_in, stretch.high_in


def all_fours():
    """All ends and ins, whether a measure is between them or not."""
    return list(itertools.product([None] + ENDS, [None] + ENDS, TRUTHS, TRUTHS))


def is_nothing(low, high, low_in, high_in):
    return not any(is_in(point, low, high, low_in, high_in) for point in POINTS)


def kept(low, high, low_in, high_in):
    """The four as they are kept: beside None it is False."""
    return low, high, low_in if low is not None else False, high_in if high is not None else False


def right_fours():
    """Each stretch once, as it is kept."""
    return [four for four in all_fours() if not is_nothing(*four) and kept(*four) == four]


class MakingStretches(unittest.TestCase):
    def test_each_end_or_none_and_each_in_or_not(self):
        made = refused = 0
        for four in all_fours():
            with self.subTest(four=four):
                if is_nothing(*four):
                    self.assertIs(type(refusal_of(lambda: made_of(*four))), NoStretch)
                    refused += 1
                else:
                    told = four_of(made_of(*four))
                    self.assertEqual(told, kept(*four))
                    self.assertIs(type(told[2]), bool)
                    self.assertIs(type(told[3]), bool)
                    made += 1
        self.assertEqual((made, refused), (100 - 36, 36))

    def test_values_are_those_handed_in(self):
        low, high = Measure(3), Measure(5)
        made = Stretch(low, high, True, False)
        self.assertEqual((made.low, made.high, made.low_in, made.high_in), (Measure(3), Measure(5), True, False))
        self.assertEqual((low, high), (Measure(3), Measure(5)))

    def test_by_place_by_name_and_left_out(self):
        low, high = Measure(3), Measure(5)
        for made in [Stretch(low, high), Stretch(low=low, high=high), Stretch(high=high, low=low),
                     Stretch(low, high, False), Stretch(low, high, high_in=True), Stretch(low, high, False, True),
                     Stretch(high_in=True, low_in=False, high=high, low=low)]:
            self.assertEqual(four_of(made), (3, 5, False, True))
        self.assertEqual(four_of(Stretch(low, high, True)), (3, 5, True, True))
        self.assertEqual(four_of(Stretch(low, high, low_in=True)), (3, 5, True, True))
        self.assertEqual(four_of(Stretch(low, high, high_in=False)), (3, 5, False, False))
        self.assertEqual(four_of(Stretch(low, high, high_in=False, low_in=True)), (3, 5, True, False))

    def test_of_none_nothing_counts_and_false_is_kept(self):
        for low_in, high_in in itertools.product(TRUTHS, TRUTHS):
            self.assertEqual(four_of(Stretch(None, None, low_in, high_in)), (None, None, False, False))
            self.assertEqual(four_of(Stretch(None, Measure(5), low_in, high_in)), (None, 5, False, high_in))
            self.assertEqual(four_of(Stretch(Measure(3), None, low_in, high_in)), (3, None, low_in, False))
        self.assertEqual(four_of(Stretch(None, None)), (None, None, False, False))
        self.assertEqual(four_of(Stretch(Measure(3), None)), (3, None, False, False))

    def test_a_single_measure(self):
        self.assertEqual(four_of(Stretch(Measure(1, 2), Measure(2, 4), True, True)), (Fraction(1, 2), Fraction(1, 2),
                                                                                    True, True))
        for low_in, high_in in [(False, False), (True, False), (False, True)]:
            self.assertIs(type(refusal_of(lambda: Stretch(Measure(1, 2), Measure(2, 4), low_in, high_in))), NoStretch)
        self.assertIs(type(refusal_of(lambda: Stretch(Measure(3), Measure(3)))), NoStretch)

    def test_low_above_high(self):
        for low, high in [(5, 3), (1, -1), (-1, -2), (2 ** 53 + 1, 2 ** 53)]:
            for low_in, high_in in itertools.product(TRUTHS, TRUTHS):
                self.assertIs(type(refusal_of(lambda: Stretch(Measure(low), Measure(high), low_in, high_in))), NoStretch)
        tiny = Measure(1, 10 ** 40)
        self.assertIs(type(refusal_of(lambda: Stretch(Measure(1).plus(tiny), Measure(1), True, True))), NoStretch)
        self.assertTrue(Stretch(Measure(1).minus(tiny), Measure(1), False, False))

    def test_ends_that_are_neither(self):
        for thing in no_ends():
            for deed in [lambda: Stretch(thing, Measure(5)), lambda: Stretch(Measure(3), thing),
                         lambda: Stretch(thing, None), lambda: Stretch(None, thing), lambda: Stretch(thing, thing),
                         lambda: Stretch(low=None, high=thing, low_in=True, high_in=False),
                         lambda: Stretch(thing, Measure(5), True, True)]:
                self.assertIs(type(refusal_of(deed)), NoStretch)

    def test_ins_that_are_no_truths(self):
        for thing in no_truths():
            for low, high in [(Measure(3), Measure(5)), (None, Measure(5)), (Measure(3), None), (None, None),
                              (Measure(3), Measure(3))]:
                for deed in [lambda: Stretch(low, high, thing), lambda: Stretch(low, high, thing, True),
                             lambda: Stretch(low, high, True, thing), lambda: Stretch(low, high, high_in=thing),
                             lambda: Stretch(low, high, thing, thing)]:
                    self.assertIs(type(refusal_of(deed)), NoStretch)

    def test_things_wrong_at_several_places(self):
        for thing in no_ends() + [Measure(3), None]:
            for other in no_truths():
                self.assertIs(type(refusal_of(lambda: Stretch(thing, Measure(1), other, other))), NoStretch)
                self.assertIs(type(refusal_of(lambda: Stretch(Measure(1), thing, other, True))), NoStretch)

    def test_what_is_handed_in_stays(self):
        held, rows = [1, [2]], {"a": [1]}
        refusal_of(lambda: Stretch(held, rows, held, rows))
        self.assertEqual((held, rows), ([1, [2]], {"a": [1]}))


class LikenessOfStretches(unittest.TestCase):
    def test_like_where_all_four_are(self):
        for one, other in itertools.product(right_fours(), right_fours()):
            self.assertIs(made_of(*one) == made_of(*other), one == other)
            self.assertIs(made_of(*one) != made_of(*other), one != other)

    def test_like_whatever_was_told_beside_none(self):
        self.assertTrue(Stretch(None, Measure(5), True, True) == Stretch(None, Measure(5), False, True))
        self.assertTrue(Stretch(None, None, True, False) == Stretch(None, None, False, True))
        self.assertFalse(Stretch(Measure(3), None, False, True) != Stretch(Measure(6, 2), None, False, False))

    def test_unlike_things_of_other_kinds(self):
        others = other_things() + [None, True, False, 0, 1, 10 ** 5000, Measure(3), Measure(0),
                                   LooksLikeStretch(None, None, False, False),
                                   LooksLikeStretch(Measure(3), Measure(5), False, True), "(3, 5]",
                                   (Measure(3), Measure(5), False, True)]
        for thing in others:
            for made in [Stretch(None, None), Stretch(Measure(3), Measure(5)), Stretch(Measure(3), Measure(3), True)]:
                self.assertIs(made == thing, False)
                self.assertIs(thing == made, False)
                self.assertIs(made != thing, True)
                self.assertIs(thing != made, True)


class TextsOfStretches(unittest.TestCase):
    def test_str(self):
        three, five = Measure(3), Measure(5)
        for made, text in [(Stretch(three, five), "(3, 5]"), (Stretch(three, None, True), "[3, ..)"),
                           (Stretch(None, five, False, False), "(.., 5)"), (Stretch(None, None), "(.., ..)"),
                           (Stretch(None, None, True, True), "(.., ..)"), (Stretch(three, five, True), "[3, 5]"),
                           (Stretch(three, five, True, False), "[3, 5)"), (Stretch(three, five, False, False), "(3, 5)"),
                           (Stretch(None, five), "(.., 5]"), (Stretch(three, None), "(3, ..)"),
                           (Stretch(three, three, True), "[3, 3]"),
                           (Stretch(Measure(-15, 2), Measure(1, 2)), "(-7 1/2, 1/2]"),
                           (Stretch(Measure(-1, 2), Measure(15, 2), True, False), "[-1/2, 7 1/2)"),
                           (Stretch(Measure(0), Measure(10 ** 13)), "(0, 10000000000000]")]:
            self.assertEqual(str(made), text)

    def test_repr(self):
        three, five = Measure(3), Measure(5)
        for made, text in [(Stretch(three, None, True), "Stretch(Measure(3, 1), None, True, False)"),
                           (Stretch(three, five), "Stretch(Measure(3, 1), Measure(5, 1), False, True)"),
                           (Stretch(None, five, True, False), "Stretch(None, Measure(5, 1), False, False)"),
                           (Stretch(None, None), "Stretch(None, None, False, False)"),
                           (Stretch(Measure(-15, 2), Measure(1, 2), True, True),
                            "Stretch(Measure(-15, 2), Measure(1, 2), True, True)")]:
            self.assertEqual(repr(made), text)


class MeasuresOfStretches(unittest.TestCase):
    def test_holds(self):
        for four in right_fours():
            made = made_of(*four)
            for point in POINTS:
                self.assertIs(made.holds(measure_of(point)), is_in(point, *four))
                self.assertIs(made.holds(measure=measure_of(point)), is_in(point, *four))
            self.assertEqual(four_of(made), four)

    def test_holds_where_points_would_round(self):
        made = Stretch(Measure(2 ** 53), Measure(2 ** 53 + 1))
        self.assertIs(made.holds(Measure(2 ** 53)), False)
        self.assertIs(made.holds(Measure(2 ** 53 + 1)), True)
        self.assertIs(made.holds(Measure(2 ** 54 + 1, 2)), True)
        self.assertIs(made.holds(Measure(2 ** 53 + 2)), False)

    def test_meets_shared_and_cut(self):
        for one, other in itertools.product(right_fours(), right_fours()):
            here, there = made_of(*one), made_of(*other)
            both = [point for point in POINTS if is_in(point, *one) and is_in(point, *other)]
            self.assertIs(here.meets(there), bool(both))
            self.look_at_shared(here.shared(there), one, other, both)
            self.look_at_cut(here.cut(there), one, other, both)
            self.assertEqual((four_of(here), four_of(there)), (one, other))

    def look_at_shared(self, told, one, other, both):
        if not both:
            self.assertIsNone(told)
        else:
            self.assertIs(type(told), Measure)
            self.assertTrue(is_in(fraction_of(told), *one) and is_in(fraction_of(told), *other), (told, one, other))

    def look_at_cut(self, told, one, other, both):
        if not both:
            self.assertIsNone(told)
        else:
            self.assertIs(type(told), Stretch)
            four = four_of(told)
            self.assertEqual([point for point in POINTS if is_in(point, *four)], both)
            self.assertEqual(kept(*four), four)
            for end in four[:2]:
                self.assertIn(end, [None] + ENDS)

    def test_ends_in_common(self):
        three, five, seven = Measure(3), Measure(5), Measure(7)
        for in_here, in_there in itertools.product(TRUTHS, TRUTHS):
            here, there = Stretch(three, five, False, in_here), Stretch(five, seven, in_there, True)
            for one, other in [(here, there), (there, here)]:
                touching = in_here and in_there
                self.assertIs(one.meets(other), touching)
                self.assertEqual(one.shared(other), five if touching else None)
                self.assertEqual(one.cut(other), Stretch(five, five, True, True) if touching else None)

    def test_without_ends(self):
        whole, up, down = Stretch(None, None), Stretch(Measure(3), None), Stretch(None, Measure(3), False, False)
        self.assertEqual(whole.cut(whole), whole)
        self.assertEqual(whole.cut(up), up)
        self.assertEqual(down.cut(whole), down)
        self.assertIsNone(up.cut(down))
        self.assertIsNone(down.shared(up))
        self.assertIs(down.meets(up), False)
        self.assertIs(type(whole.shared(whole)), Measure)
        self.assertIs(down.holds(down.shared(whole)), True)
        self.assertIs(up.holds(up.shared(whole)), True)

    def test_narrow_ones(self):
        tiny = Measure(1, 10 ** 40)
        one = Stretch(Measure(1), Measure(2), False, False)
        other = Stretch(Measure(0), Measure(1).plus(tiny), False, False)
        told = one.shared(other)
        self.assertTrue(one.holds(told) and other.holds(told))
        self.assertEqual(one.cut(other), Stretch(Measure(1), Measure(1).plus(tiny), False, False))
        self.assertIs(one.meets(Stretch(Measure(0), Measure(1), True, True)), False)

    def test_by_name(self):
        one, other = Stretch(Measure(3), Measure(5)), Stretch(Measure(4), Measure(6))
        self.assertIs(one.meets(other=other), True)
        self.assertEqual(one.cut(other=other), Stretch(Measure(4), Measure(5)))
        self.assertTrue(one.holds(one.shared(other=other)))

    def test_asked_again_the_same_is_told(self):
        one, other = Stretch(Measure(3), None), Stretch(None, Measure(5), False, False)
        first = one.shared(other)
        for unused in range(3):
            self.assertEqual(one.shared(other), first)
            self.assertIs(one.meets(other), True)
            self.assertEqual(one.cut(other), Stretch(Measure(3), Measure(5), False, False))
            self.assertIs(one.holds(Measure(4)), True)
            self.assertEqual((str(one), str(other)), ("(3, ..)", "(.., 5)"))
            self.assertEqual(repr(one), "Stretch(Measure(3, 1), None, False, False)")


if __name__ == "__main__":
    unittest.main()
