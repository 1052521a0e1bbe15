"""Points 1 to 4: measures, reckoned exactly; looked at beside Python's own fractions."""

import itertools
import math
import re
import unittest
from fractions import Fraction

from sizeladders.errors import NoBottom, NoMeasure
from sizeladders.measures import Measure, read_measure
from sizeladders.stretches import Stretch
from tests.things import LooksLikeMeasure, fraction_of, measure_of, no_texts, no_whole_numbers, other_things, refusal_of

GREAT = [10 ** 12, 10 ** 12 - 1, 2 ** 53 + 1, 10 ** 40 + 1, 6 ** 60, 2 ** 400, 10 ** 999 + 7]
NUMBERS = list(range(-13, 14)) + [30, -36, 100, -144] + GREAT + [-number for number in GREAT]
FRACTIONS = sorted({Fraction(top, bottom) for top in range(-7, 8) for bottom in range(1, 6)}
                   | {Fraction(sign * top, bottom) for sign in [1, -1] for top, bottom in
                      [(10 ** 12, 7), (10 ** 30 + 1, 10 ** 30), (10 ** 30, 10 ** 30 + 1), (1, 2 ** 300),
                       (3 ** 200, 2 ** 300), (2 ** 53 + 1, 1), (2 ** 53, 1)]})

TEXTS = {
    (0, 1): "0", (7, 1): "7", (-7, 1): "-7", (1, 2): "1/2", (-1, 2): "-1/2", (15, 2): "7 1/2", (-15, 2): "-7 1/2",
    (3, 2): "1 1/2", (-3, 2): "-1 1/2", (2, 3): "2/3", (-2, 3): "-2/3", (5, 3): "1 2/3", (7, 3): "2 1/3",
    (-4, 3): "-1 1/3", (1, 1): "1", (-1, 1): "-1", (10, 1): "10", (100, 7): "14 2/7", (-100, 7): "-14 2/7",
    (99, 100): "99/100", (101, 100): "1 1/100", (10 ** 12, 1): "1000000000000", (10 ** 15, 1): "1000000000000000",
    (1, 10 ** 13): "1/10000000000000", (10 ** 13 + 1, 10): "1000000000000 1/10",
    (-(10 ** 20) - 1, 10 ** 20): "-1 1/100000000000000000000",
}


class MakingMeasures(unittest.TestCase):
    def test_lowest_terms_with_a_bottom_above_nought(self):
        for top, bottom in itertools.product(NUMBERS, NUMBERS):
            if bottom != 0:
                made, meant = Measure(top, bottom), Fraction(top, bottom)
                self.assertEqual((made.top, made.bottom), (meant.numerator, meant.denominator))
                self.assertGreater(made.bottom, 0)
                self.assertIs(type(made.top), int)
                self.assertIs(type(made.bottom), int)

    def test_told_ones(self):
        for (top, bottom), (low, under) in {(15, 2): (15, 2), (4, 2): (2, 1), (-4, 2): (-2, 1), (4, -2): (-2, 1),
                                            (-4, -6): (2, 3), (0, 5): (0, 1), (0, -5): (0, 1), (6, 4): (3, 2),
                                            (1, -1): (-1, 1), (10 ** 600, -(10 ** 599)): (-10, 1)}.items():
            self.assertEqual((Measure(top, bottom).top, Measure(top, bottom).bottom), (low, under))

    def test_by_place_and_by_name(self):
        for top in [0, 3, -3, 4]:
            alone = [Measure(top), Measure(top=top), Measure(top, 1)]
            self.assertEqual([(made.top, made.bottom) for made in alone], [(top, 1)] * 3)
        both = [Measure(3, 4), Measure(3, bottom=4), Measure(top=3, bottom=4), Measure(bottom=4, top=3)]
        self.assertEqual([(made.top, made.bottom) for made in both], [(3, 4)] * 4)

    def test_what_is_no_whole_number_is_refused(self):
        for thing in no_whole_numbers():
            deeds = [lambda: Measure(thing), lambda: Measure(top=thing), lambda: Measure(thing, 1),
                     lambda: Measure(1, thing), lambda: Measure(0, bottom=thing), lambda: Measure(thing, thing),
                     lambda: Measure(thing, 0), lambda: Measure(bottom=0, top=thing)]
            for deed in deeds:
                self.assertIs(type(refusal_of(deed)), NoMeasure)

    def test_truths_are_no_whole_numbers(self):
        for truth in [True, False]:
            for deed in [lambda: Measure(truth), lambda: Measure(1, truth), lambda: Measure(truth, 0)]:
                self.assertIs(type(refusal_of(deed)), NoMeasure)

    def test_a_bottom_of_nought_is_refused(self):
        for top in NUMBERS:
            for deed in [lambda: Measure(top, 0), lambda: Measure(top, bottom=0), lambda: Measure(bottom=0, top=top)]:
                self.assertIs(type(refusal_of(deed)), NoBottom)

    def test_what_is_handed_in_stays(self):
        held, rows = [1, [2]], {"a": [1]}
        refusal_of(lambda: Measure(held, rows))
        self.assertEqual((held, rows), ([1, [2]], {"a": [1]}))


class LikenessOfMeasures(unittest.TestCase):
    def test_like_where_top_and_bottom_are(self):
        for one, other in itertools.product(FRACTIONS, FRACTIONS):
            self.assertIs(measure_of(one) == measure_of(other), one == other)
            self.assertIs(measure_of(one) != measure_of(other), one != other)

    def test_like_however_it_was_told(self):
        self.assertTrue(Measure(2, 4) == Measure(-1, -2))
        self.assertFalse(Measure(2, 4) != Measure(-1, -2))
        self.assertTrue(Measure(0, -9) == Measure(0))

    def test_unlike_when_one_value_differs(self):
        for one, other in [(Measure(1, 2), Measure(1, 3)), (Measure(1, 3), Measure(2, 3)), (Measure(1), Measure(-1)),
                           (Measure(2 ** 53), Measure(2 ** 53 + 1))]:
            self.assertFalse(one == other)
            self.assertTrue(one != other)

    def test_unlike_things_of_other_kinds(self):
        others = other_things() + [None, True, False, 0, 1, 10 ** 5000, Stretch(None, None), LooksLikeMeasure(1, 1)]
        for thing in others:
            for made in [Measure(0), Measure(1), Measure(1, 2), Measure(7)]:
                self.assertIs(made == thing, False)
                self.assertIs(thing == made, False)
                self.assertIs(made != thing, True)
                self.assertIs(thing != made, True)


class TextsOfMeasures(unittest.TestCase):
    def test_str(self):
        for (top, bottom), text in TEXTS.items():
            self.assertEqual(str(Measure(top, bottom)), text)
            self.assertEqual(str(Measure(-3 * top, -3 * bottom)), text)

    def test_str_says_the_value(self):
        for fraction in FRACTIONS:
            text = str(measure_of(fraction))
            sign = -1 if text[0] == "-" else 1
            self.assertEqual(sign * sum(Fraction(word) for word in text.lstrip("-").split(" ")), fraction)

    def test_repr(self):
        for (top, bottom), text in {(15, 2): "Measure(15, 2)", (7, 1): "Measure(7, 1)", (0, 3): "Measure(0, 1)",
                                    (3, -6): "Measure(-1, 2)", (-30, 4): "Measure(-15, 2)",
                                    (10 ** 20, 3): "Measure(100000000000000000000, 3)"}.items():
            self.assertEqual(repr(Measure(top, bottom)), text)


class ReckoningWithMeasures(unittest.TestCase):
    def same(self, told, meant):
        self.assertIs(type(told), Measure)
        self.assertEqual((told.top, told.bottom), (meant.numerator, meant.denominator))

    def test_plus_minus_times_and_is_below(self):
        for one, other in itertools.product(FRACTIONS, FRACTIONS):
            here, there = measure_of(one), measure_of(other)
            self.same(here.plus(there), one + other)
            self.same(here.minus(there), one - other)
            self.same(here.times(there), one * other)
            self.assertIs(here.is_below(there), one < other)
            self.assertIs(here.is_below(there, False), one < other)
            self.assertIs(here.is_below(there, True), one <= other)
            self.assertIs(here.is_below(there, alike=True), one <= other)
            self.assertIs(here.is_below(alike=False, other=there), one < other)
            # What was asked stays as it was.
            self.assertEqual((fraction_of(here), fraction_of(there)), (one, other))

    def test_parted(self):
        manys = [1, -1, 2, -2, 3, 4, 7, -12, 10 ** 12, -(10 ** 40), 2 ** 300]
        for fraction in FRACTIONS:
            made = measure_of(fraction)
            self.same(made.parted(), fraction / 2)
            for many in manys:
                self.same(made.parted(many), fraction / many)
                self.same(made.parted(many=many), fraction / many)
            self.assertEqual(fraction_of(made), fraction)

    def test_told_ones(self):
        half, third = Measure(1, 2), Measure(1, 3)
        self.same(half.plus(third), Fraction(5, 6))
        self.same(half.minus(third), Fraction(1, 6))
        self.same(third.minus(half), Fraction(-1, 6))
        self.same(half.times(third), Fraction(1, 6))
        self.same(half.plus(half), Fraction(1))
        self.same(Measure(7).parted(), Fraction(7, 2))
        self.same(Measure(-7).parted(-7), Fraction(1))
        self.assertIs(third.is_below(half), True)
        self.assertIs(half.is_below(third, True), False)
        self.assertIs(half.is_below(half), False)
        self.assertIs(half.is_below(Measure(2, 4), True), True)

    def test_by_name(self):
        one, other = Measure(5, 3), Measure(-1, 4)
        self.same(one.plus(other=other), Fraction(17, 12))
        self.same(one.minus(other=other), Fraction(23, 12))
        self.same(one.times(other=other), Fraction(-5, 12))

    def test_a_measure_beside_itself(self):
        one = Measure(5, 3)
        self.same(one.plus(one), Fraction(10, 3))
        self.same(one.minus(one), Fraction(0))
        self.same(one.times(one), Fraction(25, 9))
        self.assertIs(one.is_below(one), False)
        self.assertIs(one.is_below(one, alike=True), True)
        self.assertEqual(fraction_of(one), Fraction(5, 3))

    def test_exact_where_points_would_round(self):
        tenth = Measure(1, 10)
        self.assertTrue(tenth.plus(tenth).plus(tenth) == Measure(3, 10))
        self.assertIs(Measure(2 ** 53).is_below(Measure(2 ** 53 + 1)), True)
        self.assertIs(Measure(10 ** 40, 10 ** 40 + 1).is_below(Measure(1)), True)
        self.assertIs(Measure(1).is_below(Measure(10 ** 40, 10 ** 40 + 1), True), False)

    def test_asked_again_the_same_is_told(self):
        one, other = Measure(-22, 7), Measure(9, 4)
        for unused in range(3):
            self.same(one.plus(other), Fraction(-25, 28))
            self.same(one.minus(other), Fraction(-151, 28))
            self.same(one.times(other), Fraction(-99, 14))
            self.same(one.parted(), Fraction(-11, 7))
            self.assertIs(one.is_below(other), True)
            self.assertEqual((str(one), repr(one)), ("-3 1/7", "Measure(-22, 7)"))
            self.assertEqual(read_measure("-3 1/7"), one)


NUMBER = "[1-9][0-9]{0,11}"
FORM = re.compile(f"(?P<sign>-?)(?:(?P<alone>0|{NUMBER})|(?:(?P<whole>{NUMBER}) )?"
                  f"(?P<top>{NUMBER})/(?P<bottom>{NUMBER}))")


def fraction_of_text(text):
    """The fraction whose text it is, by the document's words, or None."""
    found = FORM.fullmatch(text)
    if found is None:
        return None
    sign = -1 if found["sign"] else 1
    if found["alone"] is not None:
        return None if found["alone"] == "0" and sign < 0 else Fraction(sign * int(found["alone"]))
    top, bottom = int(found["top"]), int(found["bottom"])
    if top >= bottom or math.gcd(top, bottom) > 1:
        return None
    return sign * (int(found["whole"] or 0) + Fraction(top, bottom))


class ReadingMeasures(unittest.TestCase):
    def look_at(self, text):
        meant = fraction_of_text(text)
        if meant is None:
            self.assertIs(type(refusal_of(lambda: read_measure(text))), NoMeasure, text)
        else:
            told = read_measure(text)
            self.assertIs(type(told), Measure)
            self.assertEqual((fraction_of(told), str(told)), (meant, text))

    def refuse(self, texts):
        for text in texts:
            self.assertIs(type(refusal_of(lambda: read_measure(text))), NoMeasure, text[:40])
            self.assertIs(type(refusal_of(lambda: read_measure(text=text))), NoMeasure, text[:40])

    def test_every_short_text(self):
        for many in range(6):
            for signs in itertools.product("-0124/ ", repeat=many):
                self.look_at("".join(signs))

    def test_every_measure_s_str_is_read_back(self):
        for top in range(-60, 61):
            for bottom in range(1, 13):
                made = Measure(top, bottom)
                self.assertTrue(read_measure(str(made)) == made)
                self.assertTrue(read_measure(text=str(made)) == made)

    def test_told_ones(self):
        for text, (top, bottom) in {"7": (7, 1), "-7": (-7, 1), "1/2": (1, 2), "-1/2": (-1, 2), "7 1/2": (15, 2),
                                    "-7 1/2": (-15, 2), "0": (0, 1), "10": (10, 1), "100 99/100": (10099, 100)}.items():
            told = read_measure(text)
            self.assertEqual((told.top, told.bottom), (top, bottom))

    def test_numbers_of_twelve_figures_and_of_thirteen(self):
        twelve, thirteen = "999999999999", "1000000000000"
        for text in [twelve, "-" + twelve, "100000000000", f"1/{twelve}", f"-1/{twelve}", f"{twelve} 1/2",
                     f"{twelve} 999999999998/{twelve}", f"-{twelve} 999999999998/{twelve}", f"999999999998/{twelve}"]:
            self.assertIsNotNone(fraction_of_text(text))
            self.look_at(text)
        self.refuse([thirteen, "-" + thirteen, f"1/{thirteen}", f"-1/{thirteen}", f"{thirteen} 1/2", f"1 1/{thirteen}",
                     f"-{thirteen} 1/2", "1000000000000/1000000000001", "1 1000000000000/1000000000001",
                     "0" + twelve, "9" * 13, "9" * 24])

    def test_numbers_of_thousands_of_figures(self):
        for many in [1001, 4300, 4301, 5000, 20000]:
            long = "1" * many
            self.refuse([long, "-" + long, f"1/{long}", f"{long} 1/2", f"{long}/2", f"1 1/{long}", f"1 {long}/2",
                         "0" * many, f"{long}/{long}"])

    def test_not_in_lowest_terms(self):
        self.refuse(["2/4", "1 2/4", "-2/4", "3/2", "-3/2", "4/2", "1/1", "7/1", "7 1/1", "7 2/2", "7 3/2", "0/1",
                     "0/2", "-0/1", "7 0/2", "7 0/1", "0 0/1", "6/9", "10/100", "-1 3/3"])

    def test_noughts_ahead(self):
        self.refuse(["00", "07", "-07", "007", "01/2", "1/02", "7 01/2", "7 1/02", "07 1/2", "0 1/2", "-0 1/2",
                     "00 1/2", "1/0", "0/0", "7 1/0", "-1/0", "1/00", "-0", "-00"])

    def test_signs_more_or_fewer(self):
        self.refuse(["--7", "+7", "7-", "-", "- 7", "7 -1/2", "-7 -1/2", "1/-2", "-1/-2", "/", "1/", "/2", "7 /2",
                     "7 1/", "1//2", "1/2/3", "7 1/2/3", "7 12", "7 1", "1/2 7", "7 1/2 1/3", "7+1/2", "+1/2", "--1/2",
                     "-+7", "7/1/2", "-/2", "-1/"])

    def test_blanks_more_or_fewer(self):
        self.refuse(["", " ", "  ", " 7", "7 ", "7  1/2", " 7 1/2", "7 1/2 ", "7 1 /2", "7 1/ 2", "- 7 1/2", " 1/2",
                     "1/2 ", "1 /2", "1/ 2", "- 1/2", " -7", "-7 ", "7\t1/2", "7\n1/2", "7\n", "\n7", "7\r", "1/2\n",
                     "1/\n2", "-\n7", "7\u00a01/2", "7\u20091/2", "\u00a07", "7\x00", "\ufeff7"])

    def test_other_texts(self):
        self.refuse(["x", "seven", "7x", "x7", "1.5", "7,5", "1e3", "0x7", "1_000", "7 and 1/2", "None", "True",
                     "Measure(7, 1)", "\u0667", "\uff17", "\u00b2", "\u00bd", "7\u00bd", "1\u20442", "\u22127",
                     "1/\u0662", "\u0661/2", "\u0667 1/2", "\u2460", "(7", "7)", "[7]", "'7'", "7;", "7:1", "7\\2", "\ud800",
                     "%", "{}", "7%"])

    def test_what_is_no_text_is_refused(self):
        for thing in no_texts():
            self.assertIs(type(refusal_of(lambda: read_measure(thing))), NoMeasure)
            self.assertIs(type(refusal_of(lambda: read_measure(text=thing))), NoMeasure)


if __name__ == "__main__":
    unittest.main()
