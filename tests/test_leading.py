"""Points 1 to 3 (b) and 9: sizes led to sizes, and the measures that show it."""

import itertools
import unittest
from fractions import Fraction

from sizeladders.errors import NoSize
from sizeladders.ladders import Ladder, even
from sizeladders.leading import led, led_paper, shows_led
from sizeladders.measures import Measure
from tests.things import anything, measure_of, no_whole_numbers, otherwise, refusal_of, strangers
from tests.words import (SIDE_BY_SIDE, comes_to, is_number, ladder_of, marks_of, met_of, plain_of)


def run_of(met):
    return (met[0], met[-1]) if met else None


def is_right(one, number, other, run, paper):
    """Whether run and paper are those of size number, by the document's words."""
    met = met_of(one, number, other)
    if type(paper) is not tuple or len(paper) != len(met):
        return False
    if not met:
        return run is None
    if type(run) is not tuple or not all(is_number(part) for part in run) or run != run_of(met):
        return False
    return all(comes_to(one, measure, number) and comes_to(other, measure, size) for measure, size in zip(paper, met))


def pairs():
    return list(itertools.product(SIDE_BY_SIDE, SIDE_BY_SIDE))


class SizesLedToSizes(unittest.TestCase):
    def test_beside_the_document_s_words(self):
        none = 0
        for one, other in pairs():
            here, there = ladder_of(one), ladder_of(other)
            for number in range(len(here)):
                met = met_of(one, number, other)
                # That they are a run is told, too.
                self.assertEqual(met, list(range(met[0], met[-1] + 1)) if met else [])
                run, paper = led(here, number, there), led_paper(here, number, there)
                self.assertEqual(run, run_of(met), (one, number, other))
                self.assertTrue(is_right(one, number, other, run, paper))
                self.assertIs(shows_led(here, number, there, run, paper), True)
                none += not met
            self.assertEqual((plain_of(here), plain_of(there)), (one, other))
        self.assertGreater(none, 100)

    def test_a_ladder_led_to_itself(self):
        for plain in SIDE_BY_SIDE:
            made = ladder_of(plain)
            for number in range(len(made)):
                meant = None if made.stretch(number) is None else (number, number)
                self.assertEqual(led(made, number, made), meant)

    def test_told_ones(self):
        halves, wholes = even(Measure(3), Measure(1, 2), 5), even(Measure(3), Measure(1), 3)
        self.assertEqual([led(halves, number, wholes) for number in range(5)], [(0, 0), (1, 1), (1, 1), (2, 2), (2, 2)])
        self.assertEqual([led(wholes, number, halves) for number in range(3)], [(0, 0), (1, 2), (3, 4)])
        downs = even(Measure(3), Measure(1), 3, "down")
        self.assertEqual([led(wholes, number, downs) for number in range(3)], [(0, 0), (0, 1), (1, 2)])
        self.assertEqual([led(downs, number, wholes) for number in range(3)], [(0, 1), (1, 2), (2, 2)])
        far = Ladder((Measure(9),), "down")
        self.assertEqual([led(wholes, number, far) for number in range(3)], [None] * 3)
        self.assertEqual([led_paper(wholes, number, far) for number in range(3)], [()] * 3)
        bounded = Ladder((Measure(5),), "near", Measure(5), Measure(5))
        self.assertEqual([led_paper(wholes, number, bounded) for number in range(3)], [(), (), (Measure(5),)])

    def test_one_measure_in_common_is_enough(self):
        one, other = Ladder((Measure(3),)), Ladder((Measure(3),), "down")
        self.assertEqual((led(one, 0, other), led_paper(one, 0, other)), ((0, 0), (Measure(3),)))
        tiny = Measure(1, 10 ** 30)
        self.assertIsNone(led(one, 0, Ladder((Measure(3).plus(tiny),), "down")))
        near = Ladder((Measure(3).minus(tiny), Measure(3).plus(tiny)), "near")
        self.assertEqual(led(one, 0, near), (0, 1))
        self.assertEqual(led_paper(one, 0, near)[1], Measure(3))

    def test_of_24_sizes(self):
        one, other = even(Measure(0), Measure(1, 24), 24, "near"), Ladder((Measure(7),), "near")
        self.assertEqual(led(other, 0, one), (0, 23))
        paper = led_paper(other, 0, one)
        self.assertEqual([one.size(measure) for measure in paper], list(range(24)))
        self.assertIs(shows_led(other, 0, one, (0, 23), paper), True)

    def test_kinds(self):
        one, other = ladder_of(SIDE_BY_SIDE[0]), ladder_of(SIDE_BY_SIDE[4])
        run, paper = led(one, 2, other), led_paper(one, 2, other)
        self.assertIs(type(run), tuple)
        self.assertTrue(all(is_number(part) for part in run))
        self.assertIs(type(paper), tuple)
        self.assertTrue(all(type(part) is Measure for part in paper))

    def test_by_name(self):
        one, other = ladder_of(SIDE_BY_SIDE[0]), ladder_of(SIDE_BY_SIDE[4])
        self.assertEqual(led(other=other, number=2, one=one), led(one, 2, other))
        self.assertEqual(led_paper(other=other, number=2, one=one), led_paper(one, 2, other))
        run, paper = led(one, 2, other), led_paper(one, 2, other)
        self.assertIs(shows_led(paper=paper, run=run, other=other, number=2, one=one), True)

    def test_no_such_size(self):
        for one, other in [(0, 4), (8, 10), (10, 15), (15, 13), (11, 14)]:
            here, there = ladder_of(SIDE_BY_SIDE[one]), ladder_of(SIDE_BY_SIDE[other])
            numbers = [-1, -len(here), len(here), len(here) + 1, 24, 25, 10 ** 30, 10 ** 5000, -10 ** 5000]
            for thing in no_whole_numbers() + numbers + ["0", Measure(0)] + strangers():
                for deed in [lambda: led(here, thing, there), lambda: led_paper(here, thing, there),
                             lambda: led(one=here, number=thing, other=there)]:
                    error = refusal_of(deed)
                    self.assertIs(type(error), NoSize)
                    self.assertIs(error.number, thing)

    def test_asked_again_the_same_is_told(self):
        for one, other in pairs()[::7]:
            here, there = ladder_of(one), ladder_of(other)
            first = [(led(here, number, there), led_paper(here, number, there)) for number in range(len(here))]
            for unused in range(2):
                again = [(led(here, number, there), led_paper(here, number, there)) for number in range(len(here))]
                self.assertEqual(again, first)


class LookingAtWhatIsLed(unittest.TestCase):
    def test_with_one_thing_otherwise(self):
        taken = refused = 0
        for one, other in pairs()[::5]:
            here, there = ladder_of(one), ladder_of(other)
            for number in sorted({0, len(here) // 2, len(here) - 1}):
                run, paper = led(here, number, there), led_paper(here, number, there)
                if len(paper) > 8:
                    continue
                for two in [(thing, paper) for thing in otherwise(run)] + [(run, thing) for thing in otherwise(paper)]:
                    meant = is_right(one, number, other, *two)
                    self.assertIs(shows_led(here, number, there, *two), meant, (one, number, other, two))
                    taken += meant
                    refused += not meant
        self.assertGreater(taken, 100)
        self.assertGreater(refused, 1000)

    def test_other_right_papers(self):
        one, other = even(Measure(3), Measure(1), 3), even(Measure(3), Measure(1), 3, "down")
        for low, high in [(Measure(3).plus(Measure(1, 9)), Measure(4)), (Measure(7, 2), Measure(4))]:
            self.assertIs(shows_led(one, 1, other, (0, 1), (low, high)), True)
        for low, high in [(Measure(3), Measure(4)), (Measure(4), Measure(4)), (Measure(4), Measure(7, 2)),
                          (Measure(7, 2), Measure(9, 2)), (Measure(7, 2), Measure(7, 2))]:
            self.assertIs(shows_led(one, 1, other, (0, 1), (low, high)), False)

    def test_runs_that_are_wider_or_narrower(self):
        one, other = even(Measure(3), Measure(1), 3), even(Measure(3), Measure(1, 4), 9)
        run, paper = led(one, 1, other), led_paper(one, 1, other)
        self.assertEqual(run, (1, 4))
        for low, high in itertools.product(range(-1, 6), repeat=2):
            self.assertIs(shows_led(one, 1, other, (low, high), paper), (low, high) == run)
            if low <= high:
                self.assertIs(shows_led(one, 1, other, (low, high), paper[max(low - 1, 0):high]), (low, high) == run)

    def test_none_and_no_paper(self):
        one, far = even(Measure(3), Measure(1), 3), Ladder((Measure(9),), "down")
        self.assertIs(shows_led(one, 1, far, None, ()), True)
        for run, paper in [(None, (Measure(4),)), (None, None), (None, []), (None, ""), (None, {}), (None, 0), ((), ()),
                           ((0, 0), ()), ((0, 0), (Measure(9),)), (0, ()), (False, ()), ("", ()), ((None, None), ()),
                           ((0, -1), ())]:
            self.assertIs(shows_led(one, 1, far, run, paper), False, (run, paper))
        self.assertIs(shows_led(one, 1, one, None, ()), False)

    def test_truths_are_no_numbers_and_lists_no_tuples(self):
        one, other = even(Measure(3), Measure(1), 3), even(Measure(3), Measure(1), 3, "down")
        run, paper = led(one, 1, other), led_paper(one, 1, other)
        self.assertEqual(run, (0, 1))
        self.assertIs(shows_led(one, 1, other, run, paper), True)
        for thing in [(False, 1), (0, True), (False, True), [0, 1], (Fraction(0), 1), (0, 1, 1), (0,), "01", ("0", "1")]:
            self.assertIs(shows_led(one, 1, other, thing, paper), False)
        for thing in [list(paper), paper[::-1], paper[:1], paper + paper[-1:], tuple(map(str, paper)), "ab", (3, 4)]:
            self.assertIs(shows_led(one, 1, other, run, thing), False)

    def test_of_anything(self):
        for one, other in [(0, 4), (8, 14), (10, 12), (6, 6), (9, 0)]:
            one, other = SIDE_BY_SIDE[one], SIDE_BY_SIDE[other]
            here, there = ladder_of(one), ladder_of(other)
            run, paper = led(here, 0, there), led_paper(here, 0, there)
            for thing in anything():
                for two in [(thing, paper), (run, thing), (thing, thing), ((thing, 0), paper), ((0, thing), paper),
                            ((thing, thing), paper), (run, (thing,)), (run, paper[:-1] + (thing,)), (run, [thing])]:
                    self.assertIs(shows_led(here, 0, there, *two), is_right(one, 0, other, *two), two)

    def test_of_no_size_it_shows_nothing(self):
        one = even(Measure(3), Measure(1), 3)
        for number in [-1, 3, 24, 25, 10 ** 30]:
            for run, paper in [(None, ()), ((2, 2), (Measure(5),)), ((number, number), (Measure(5),)), ((0, 2), ())]:
                self.assertIs(shows_led(one, number, one, run, paper), False)

    def test_what_is_handed_in_stays(self):
        one, other = ladder_of(SIDE_BY_SIDE[0]), ladder_of(SIDE_BY_SIDE[4])
        run, paper = [0, 1], [Measure(3), [Measure(4)]]
        shows_led(one, 0, other, run, paper)
        shows_led(one, 0, other, (run, run), (paper,))
        self.assertEqual((run, paper), ([0, 1], [Measure(3), [Measure(4)]]))
        self.assertEqual((plain_of(one), plain_of(other)), (SIDE_BY_SIDE[0], SIDE_BY_SIDE[4]))


class FarApartAndFine(unittest.TestCase):
    def test_marks_that_are_just_beside_each_other(self):
        tiny = Fraction(1, 10 ** 60)
        plains = [(marks_of(1, 2, 3), "up", None, None), (marks_of(1 + tiny, 2 - tiny, 3), "up", None, None),
                  (marks_of(1 - tiny, 2 + tiny, 3), "down", None, None), (marks_of(1, 1 + tiny, 2), "near", None, None)]
        for one, other in itertools.product(plains, plains):
            here, there = ladder_of(one), ladder_of(other)
            for number in range(3):
                run, paper = led(here, number, there), led_paper(here, number, there)
                self.assertTrue(is_right(one, number, other, run, paper))
                self.assertIs(shows_led(here, number, there, run, paper), True)

    def test_great_numbers(self):
        one = even(measure_of(10 ** 300), Measure(1, 10 ** 300), 24, "near")
        other = even(measure_of(10 ** 300), Measure(1, 10 ** 300 + 1), 24, "down")
        for number in [0, 11, 23]:
            run, paper = led(one, number, other), led_paper(one, number, other)
            self.assertTrue(is_right(plain_of(one), number, plain_of(other), run, paper))


if __name__ == "__main__":
    unittest.main()
