"""Points 1 to 3 (a), 6 and 7: ladders, looked at measure by measure beside the document's words."""

import itertools
import unittest
from fractions import Fraction

from sizeladders.errors import NoLadder, NoSize, Slip
from sizeladders.ladders import Ladder, even
from sizeladders.measures import Measure
from sizeladders.stretches import Stretch
from tests.things import (LooksLikeLadder, LooksLikeMeasure, Touchy, fraction_of, measure_of, no_ends, no_measures,
                          no_whole_numbers, other_things, refusal_of, strangers)
from tests.words import (RULES, SIDE_BY_SIDE, TINY, all_plains, borders_of, ladder_of, marks_of, plain_of, points_of,
                         size_of)

THREE, HALF, FOUR, FIVE = Measure(3), Measure(7, 2), Measure(4), Measure(5)


def measures_of(*numbers):
    return tuple(measure_of(number) for number in numbers)


def rising(many):
    return tuple(Measure(number, 3) for number in range(many))


class MakingLadders(unittest.TestCase):
    def same(self, made, marks, rule="up", least=None, most=None):
        self.assertIs(type(made), Ladder)
        self.assertEqual((made.marks, made.rule, made.least, made.most), (marks, rule, least, most))
        self.assertIs(type(made.marks), tuple)

    def refused(self, *things, **named):
        self.assertIs(type(refusal_of(lambda: Ladder(*things, **named))), NoLadder, (things, named))

    def slips(self, row, *things, **named):
        error = refusal_of(lambda: Ladder(*things, **named))
        self.assertIs(type(error), Slip)
        self.assertIs(type(error.row), int)
        self.assertEqual(error.row, row)

    def test_by_place_by_name_and_left_out(self):
        marks = (THREE, HALF, FOUR)
        for made in [Ladder(marks), Ladder(marks=marks), Ladder(marks, "up"), Ladder(marks, rule="up"),
                     Ladder(marks, "up", None, None), Ladder(most=None, least=None, rule="up", marks=marks)]:
            self.same(made, marks)
        for rule in RULES:
            for made in [Ladder(marks, rule), Ladder(rule=rule, marks=marks), Ladder(marks, rule, None)]:
                self.same(made, marks, rule)
        self.same(Ladder(marks, "near", THREE), marks, "near", THREE)
        self.same(Ladder(marks, least=THREE), marks, "up", THREE)
        self.same(Ladder(marks, most=FIVE), marks, "up", None, FIVE)
        self.same(Ladder(marks, "down", None, FIVE), marks, "down", None, FIVE)
        self.same(Ladder(marks, "down", THREE, FIVE), marks, "down", THREE, FIVE)
        self.same(Ladder(most=FIVE, least=THREE, rule="down", marks=marks), marks, "down", THREE, FIVE)

    def test_as_many_marks_as_there_may_be(self):
        for many in range(1, 25):
            for rule in RULES:
                self.same(Ladder(rising(many), rule), rising(many), rule)
        for many in [0, 25, 26, 48, 100]:
            for rule in RULES:
                self.refused(rising(many), rule)
                self.refused(rising(many), rule, THREE, FOUR)
        self.refused(())

    def test_marks_that_are_no_tuple(self):
        lists = [[THREE], [THREE, FOUR], list(rising(24)), {THREE.top: THREE}, iter([THREE]), "up", (m for m in [THREE])]
        for thing in no_measures() + [THREE, HALF] + lists + [LooksLikeLadder((THREE,))] + strangers():
            if not isinstance(thing, tuple):
                self.refused(thing)
                self.refused(marks=thing, rule="near")

    def test_marks_that_are_no_measures(self):
        for thing in no_measures() + [LooksLikeMeasure(4, 1), Fraction(4)] + strangers():
            for marks in [(thing,), (thing, FOUR), (THREE, thing), (THREE, thing, FIVE), rising(23) + (thing,),
                          (thing,) + rising(23), (thing, thing)]:
                self.refused(marks)

    def test_rules_that_are_none(self):
        texts = ["", "Up", "UP", "up ", " up", "ups", "u", "nearest", "Near", "down\n", "updown", "up: 3"]
        for thing in no_measures() + [THREE, b"up", ["up"], ("up",), {"up": 1}] + texts + strangers():
            if not isinstance(thing, str) or thing not in RULES:
                self.refused((THREE, FOUR), thing)
                self.refused((THREE, FOUR), rule=thing)
                self.refused((THREE, FOUR), thing, THREE, FOUR)

    def test_least_and_most_that_are_neither(self):
        for thing in no_ends() + [Fraction(4), LooksLikeMeasure(4, 1), (FOUR,)] + strangers():
            for rule in RULES:
                self.refused((THREE, FOUR), rule, thing)
                self.refused((THREE, FOUR), rule, None, thing)
            self.refused((THREE, FOUR), "up", thing, FOUR)
            self.refused((THREE, FOUR), "up", FOUR, thing)
            self.refused((THREE, FOUR), least=thing)
            self.refused((THREE, FOUR), most=thing)
            self.refused((THREE, FOUR), "up", thing, thing)

    def test_least_above_most(self):
        tiny = measure_of(TINY)
        for rule in RULES:
            for least, most in [(FOUR, THREE), (THREE.plus(tiny), THREE), (Measure(1), Measure(-1)),
                                (Measure(2 ** 53 + 1), Measure(2 ** 53)), (Measure(1, 2), Measure(1, 3))]:
                self.refused((THREE, FOUR), rule, least, most)
                self.refused((THREE,), most=most, least=least, rule=rule)
            for least, most in [(THREE, THREE), (THREE, THREE.plus(tiny)), (Measure(-1), Measure(1)),
                                (Measure(100), Measure(101)), (Measure(-9), Measure(-8)), (Measure(2, 4), Measure(1, 2))]:
                self.same(Ladder((THREE, FOUR), rule, least, most), (THREE, FOUR), rule, least, most)

    def test_marks_that_do_not_rise(self):
        for rule in RULES:
            self.slips(1, (FOUR, THREE), rule)
            self.slips(1, (THREE, THREE), rule)
            self.slips(1, (Measure(1, 2), Measure(2, 4)), rule, THREE, FOUR)
            self.slips(2, (THREE, FOUR, FOUR), rule)
            self.slips(2, (THREE, FIVE, FOUR), rule)
            self.slips(2, measures_of(-1, 3, 2, 1, 5), rule)
            self.slips(3, measures_of(1, 2, 3, "5/2", 4, 3), rule)
        self.slips(1, marks=measures_of(9, 1, 2, 3))
        self.slips(4, measures_of(1, 2, 3, 4, 0))
        self.slips(1, measures_of(2 ** 53 + 1, 2 ** 53))
        self.slips(1, measures_of("-1/3", "-1/2"))

    def test_each_row_can_slip(self):
        for many in range(2, 25):
            for row in range(1, many):
                marks = list(rising(many))
                marks[row] = marks[row - 1]
                self.slips(row, tuple(marks))
                marks[row] = marks[row - 1].minus(measure_of(TINY))
                self.slips(row, tuple(marks), "near")

    def test_what_is_no_ladder_comes_ahead_of_a_slip(self):
        slipping = (FOUR, THREE)
        self.refused(slipping, "no")
        self.refused(slipping, "up", 3)
        self.refused(slipping, "up", None, 3)
        self.refused(slipping, "up", FOUR, THREE)
        self.refused(slipping, least=FOUR, most=THREE)
        self.refused(slipping + (3,))
        self.refused((3,) + slipping)
        self.refused(list(slipping))
        self.refused(slipping * 13)
        self.slips(1, slipping * 12)

    def test_what_is_handed_in_stays(self):
        marks, least, most = (THREE, FOUR), Measure(1), Measure(9)
        held, rows = [THREE, [FOUR]], {"a": [1]}
        Ladder(marks, "near", least, most)
        refusal_of(lambda: Ladder(held, rows, held, rows))
        refusal_of(lambda: Ladder(marks[::-1], "near", least, most))
        self.assertEqual((marks, least, most), ((Measure(3), Measure(4)), Measure(1), Measure(9)))
        self.assertEqual((held, rows), ([Measure(3), [Measure(4)]], {"a": [1]}))


def many_plains():
    """Ladders whose least and most lie below, at, between, just beside and above all marks and midsts."""
    plains = list(SIDE_BY_SIDE)
    for marks in [marks_of(2,), marks_of(-1, "1/2"), marks_of("-3/2", "-1/3", 2, "9/4")]:
        ends = sorted(borders_of((marks, "up", None, None)))
        beside = [ends[0] - TINY, ends[0] + TINY, ends[-1] - TINY, ends[-1] + TINY, ends[0] - 9, ends[-1] + 9]
        plains += all_plains(marks, [None] + ends + beside)
    return plains


class MeasuresOfLadders(unittest.TestCase):
    def test_size_by_each_rule(self):
        for plain in many_plains():
            made = ladder_of(plain)
            for point in points_of(plain):
                told = made.size(measure_of(point))
                self.assertIn(type(told), [int, type(None)])
                self.assertEqual(told, size_of(plain, point), (plain, point))
                self.assertEqual(made.size(measure=measure_of(point)), told)
            self.assertEqual(plain_of(made), plain)

    def test_stretch_is_just_the_measures_that_come_to_a_size(self):
        empty = 0
        for plain in many_plains():
            made = ladder_of(plain)
            for number in range(len(made)):
                told = made.stretch(number)
                own = [point for point in points_of(plain) if size_of(plain, point) == number]
                self.assertEqual(made.stretch(number=number), told)
                if not own:
                    self.assertIsNone(told)
                    empty += 1
                    continue
                self.assertIs(type(told), Stretch)
                self.assertEqual([point for point in points_of(plain) if told.holds(measure_of(point))], own)
                for end in [told.low, told.high]:
                    self.assertTrue(end is None or fraction_of(end) in borders_of(plain))
            self.assertEqual(plain_of(made), plain)
        self.assertGreater(empty, 100)

    def test_told_sizes(self):
        marks = (THREE, HALF, FOUR)
        for rule, sizes in {
            "up": [(2, 0), (3, 0), ("13/4", 1), ("7/2", 1), ("15/4", 2), (4, 2), (5, None), (-9, 0)],
            "down": [(2, None), (3, 0), ("13/4", 0), ("7/2", 1), ("15/4", 1), (4, 2), (5, 2), (10 ** 50, 2)],
            "near": [(2, 0), (3, 0), ("13/4", 1), ("16/5", 0), ("7/2", 1), ("15/4", 2), ("37/10", 1), (4, 2), (5, 2)],
        }.items():
            for number, size in sizes:
                self.assertEqual(Ladder(marks, rule).size(measure_of(number)), size, (rule, number))

    def test_told_stretches(self):
        marks = (THREE, HALF, FOUR)
        for made, texts in [
            (Ladder(marks), ["(.., 3]", "(3, 3 1/2]", "(3 1/2, 4]"]),
            (Ladder(marks, "down"), ["[3, 3 1/2)", "[3 1/2, 4)", "[4, ..)"]),
            (Ladder(marks, "near"), ["(.., 3 1/4)", "[3 1/4, 3 3/4)", "[3 3/4, ..)"]),
            (Ladder(marks, "up", Measure(2), FIVE), ["[2, 3]", "(3, 3 1/2]", "(3 1/2, 4]"]),
            (Ladder(marks, "down", Measure(2), FIVE), ["[3, 3 1/2)", "[3 1/2, 4)", "[4, 5]"]),
            (Ladder(marks, "near", Measure(2), FIVE), ["[2, 3 1/4)", "[3 1/4, 3 3/4)", "[3 3/4, 5]"]),
            (Ladder(marks, "up", THREE, THREE), ["[3, 3]", "None", "None"]),
            (Ladder(marks, "down", FOUR, FOUR), ["None", "None", "[4, 4]"]),
            (Ladder(marks, "near", HALF, HALF), ["None", "[3 1/2, 3 1/2]", "None"]),
            (Ladder(marks, "up", HALF), ["None", "[3 1/2, 3 1/2]", "(3 1/2, 4]"]),
            (Ladder(marks, "up", FIVE), ["None", "None", "None"]),
            (Ladder(marks, "down", None, Measure(2)), ["None", "None", "None"]),
            (Ladder(marks, "near", None, Measure(13, 4)), ["(.., 3 1/4)", "[3 1/4, 3 1/4]", "None"]),
            (Ladder((THREE,), "up"), ["(.., 3]"]), (Ladder((THREE,), "down"), ["[3, ..)"]),
            (Ladder((THREE,), "near"), ["(.., ..)"]), (Ladder((THREE,), "near", FOUR, FIVE), ["[4, 5]"]),
        ]:
            self.assertEqual([str(made.stretch(number)) for number in range(len(made))], texts, made)

    def test_least_and_most_themselves_have_a_size(self):
        for rule in RULES:
            made = Ladder((THREE, FOUR, FIVE), rule, HALF, Measure(9, 2))
            for end in [HALF, Measure(9, 2)]:
                self.assertIsNotNone(made.size(end))
            self.assertIsNone(made.size(HALF.minus(measure_of(TINY))))
            self.assertIsNone(made.size(Measure(9, 2).plus(measure_of(TINY))))

    def test_no_such_size(self):
        ladders = [Ladder((THREE,)), Ladder((THREE, FOUR), "near"), Ladder(rising(24), "down", FIVE, FIVE)]
        for made in ladders:
            numbers = [-1, -2, -len(made), len(made), len(made) + 1, 24, 25, 10 ** 30, -10 ** 30, 10 ** 5000, -10 ** 5000]
            texts = ["0", "1", "", b"0"]
            for thing in no_whole_numbers() + numbers + texts + [THREE, made, Touchy()] + strangers():
                for deed in [lambda: made.stretch(thing), lambda: made.stretch(number=thing)]:
                    error = refusal_of(deed)
                    self.assertIs(type(error), NoSize)
                    self.assertIs(error.number, thing)

    def test_exact_where_points_would_round(self):
        great = 2 ** 53
        made = Ladder((Measure(great), Measure(great + 1)), "up")
        self.assertEqual([made.size(Measure(2 * great + at, 2)) for at in range(-1, 4)], [0, 0, 1, 1, None])
        made = Ladder((Measure(great), Measure(great + 1)), "near")
        self.assertEqual(made.stretch(0), Stretch(None, Measure(2 * great + 1, 2), False, False))
        self.assertEqual(made.size(Measure(2 * great + 1, 2)), 1)
        self.assertEqual(made.size(Measure(10 ** 600 * (2 * great + 1) - 1, 2 * 10 ** 600)), 0)

    def test_numbers_of_many_figures(self):
        step = Measure(1, 10 ** 400 + 1)
        for rule in RULES:
            made = even(Measure(10 ** 400), step, 24, rule)
            for number in [0, 1, 12, 23]:
                self.assertEqual(made.size(made.marks[number]), number)
                self.assertTrue(made.stretch(number).holds(made.marks[number]))

    def test_asked_again_the_same_is_told(self):
        for plain in SIDE_BY_SIDE:
            made, again = ladder_of(plain), ladder_of(plain)
            for unused in range(3):
                for number in range(len(made)):
                    self.assertEqual(made.stretch(number), again.stretch(number))
                for point in points_of(plain)[::3]:
                    self.assertEqual(made.size(measure_of(point)), again.size(measure_of(point)))
            self.assertEqual((plain_of(made), str(made), repr(made)), (plain, str(again), repr(again)))


class LikenessAndTextsOfLadders(unittest.TestCase):
    def test_len(self):
        for many in range(1, 25):
            for rule in RULES:
                self.assertEqual(len(Ladder(rising(many), rule)), many)
                self.assertEqual(len(Ladder(rising(many), rule, Measure(-9), Measure(-8))), many)

    def test_like_where_all_four_are(self):
        ends = [None, Fraction(0), Fraction(1), Fraction(1, 2)]
        plains = [plain for marks in [marks_of(0), marks_of(1), marks_of(0, 1), marks_of(0, 1, 2), marks_of(0, "1/2")]
                  for plain in all_plains(marks, ends)]
        for one, other in itertools.product(plains, plains):
            self.assertIs(ladder_of(one) == ladder_of(other), one == other)
            self.assertIs(ladder_of(one) != ladder_of(other), one != other)

    def test_like_however_it_was_told(self):
        self.assertTrue(Ladder((Measure(2, 4), THREE), "up", Measure(0, 7)) == even(Measure(1, 2), Measure(5, 2), 2,
                                                                                 least=Measure(0)))

    def test_unlike_things_of_other_kinds(self):
        for made in [Ladder((THREE,)), Ladder((THREE, FOUR), "near", THREE, FIVE)]:
            looks = LooksLikeLadder(made.marks, made.rule, made.least, made.most)
            four = (made.marks, made.rule, made.least, made.most)
            for thing in other_things() + [None, True, False, 0, 1, THREE, looks, four, list(four), str(made), repr(made),
                                           made.marks, made.rule, Stretch(None, None)]:
                self.assertIs(made == thing, False)
                self.assertIs(thing == made, False)
                self.assertIs(made != thing, True)
                self.assertIs(thing != made, True)

    def test_str(self):
        marks = (THREE, HALF, FOUR)
        for made, text in [
            (Ladder(marks), "up: 3, 3 1/2, 4"), (Ladder(marks, "down"), "down: 3, 3 1/2, 4"),
            (Ladder(marks, "near"), "near: 3, 3 1/2, 4"), (Ladder(marks, "up", Measure(2)), "up: 3, 3 1/2, 4 from 2"),
            (Ladder(marks, "up", None, FIVE), "up: 3, 3 1/2, 4 to 5"),
            (Ladder(marks, "up", Measure(2), FIVE), "up: 3, 3 1/2, 4 from 2 to 5"),
            (Ladder((THREE,), "near"), "near: 3"), (Ladder((THREE,), "down", THREE, THREE), "down: 3 from 3 to 3"),
            (Ladder(measures_of("-15/2", "-1/2", 0, "1/3"), "near", Measure(-17, 2), Measure(1, 2)),
             "near: -7 1/2, -1/2, 0, 1/3 from -8 1/2 to 1/2"),
            (Ladder(measures_of(0, 1), "up", Measure(0), Measure(0)), "up: 0, 1 from 0 to 0"),
        ]:
            self.assertEqual(str(made), text)

    def test_repr(self):
        for made, text in [
            (Ladder((THREE, FOUR)), "Ladder((Measure(3, 1), Measure(4, 1)), 'up', None, None)"),
            (Ladder((THREE,), "near"), "Ladder((Measure(3, 1),), 'near', None, None)"),
            (Ladder((HALF, FOUR), "down", THREE), "Ladder((Measure(7, 2), Measure(4, 1)), 'down', Measure(3, 1), None)"),
            (Ladder((HALF,), "up", None, Measure(-1, 2)), "Ladder((Measure(7, 2),), 'up', None, Measure(-1, 2))"),
            (Ladder((HALF,), "up", THREE, FIVE), "Ladder((Measure(7, 2),), 'up', Measure(3, 1), Measure(5, 1))"),
        ]:
            self.assertEqual(repr(made), text)


class EvenLadders(unittest.TestCase):
    def test_marks(self):
        for first, step in itertools.product([Fraction(0), Fraction(-5, 3), Fraction(10 ** 30)],
                                             [Fraction(1), Fraction(1, 3), Fraction(7, 2), TINY]):
            for many in [1, 2, 3, 23, 24]:
                made = even(measure_of(first), measure_of(step), many)
                self.assertIs(type(made), Ladder)
                self.assertEqual(plain_of(made), (tuple(first + at * step for at in range(many)), "up", None, None))

    def test_by_place_by_name_and_left_out(self):
        marks = (THREE, HALF, FOUR)
        half = Measure(1, 2)
        for made in [even(THREE, half, 3), even(first=THREE, step=half, many=3), even(many=3, step=half, first=THREE),
                     even(THREE, half, 3, "up"), even(THREE, half, 3, "up", None, None)]:
            self.assertEqual(made, Ladder(marks))
        for rule in RULES:
            self.assertEqual(even(THREE, half, 3, rule), Ladder(marks, rule))
            self.assertEqual(even(THREE, half, 3, rule=rule), Ladder(marks, rule))
            self.assertEqual(even(THREE, half, 3, rule, Measure(2)), Ladder(marks, rule, Measure(2)))
            self.assertEqual(even(THREE, half, 3, rule, most=FIVE), Ladder(marks, rule, None, FIVE))
            self.assertEqual(even(most=FIVE, least=Measure(2), rule=rule, many=3, step=half, first=THREE),
                             Ladder(marks, rule, Measure(2), FIVE))
        self.assertEqual(even(THREE, half, 3, least=Measure(2)), Ladder(marks, "up", Measure(2)))

    def test_what_is_handed_in_stays(self):
        first, step = Measure(3), Measure(1, 2)
        even(first, step, 24)
        self.assertEqual((first, step), (Measure(3), Measure(1, 2)))


if __name__ == "__main__":
    unittest.main()
