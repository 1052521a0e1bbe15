"""Points 1 to 3 (g) and 8: where tables slip, which single rows could be it, and their steps."""

import itertools
import unittest
from fractions import Fraction

from sizeladders.measures import Measure
from sizeladders.slips import singles_of, slip_of, steps_of
from tests.things import measure_of

LEVELS = [Fraction(-1, 2), Fraction(0), Fraction(1, 3), Fraction(1), Fraction(2)]
TINY = Fraction(1, 10 ** 30)


def rows_of(*numbers):
    return tuple(measure_of(number) for number in numbers)


def short_tables():
    """All tables of one to five rows over some levels, and some long ones that slip at any place."""
    tables = [rows for many in range(1, 6) for rows in itertools.product(LEVELS[:many + 1], repeat=many)]
    for many in [23, 24, 25]:
        even = [Fraction(at, 3) for at in range(many)]
        tables += [tuple(even), tuple(even[::-1]), (Fraction(7),) * many]
        for at in range(many):
            for worth in [even[at] + TINY, even[at] - TINY, even[at] - 2, even[at] + 2, even[0], even[-1]]:
                tables.append(tuple(even[:at] + [worth] + even[at + 1:]))
    return tables


def do_rise(rows):
    return all(one < other for one, other in zip(rows, rows[1:]))


def first_slip(rows):
    return next((at for at in range(1, len(rows)) if not do_rise(rows[:at + 1])), None)


def singles(rows):
    return tuple(at for at in range(len(rows)) if do_rise(rows[:at] + rows[at + 1:]))


def steps(rows):
    for at in range(1, len(rows)):
        if rows[at] <= rows[at - 1] or rows[at] - rows[at - 1] != rows[1] - rows[0]:
            return "odd", at
    return "even", measure_of(rows[1] - rows[0])


class SlipsOfTables(unittest.TestCase):
    def test_beside_the_document_s_words(self):
        for rows in short_tables():
            made = rows_of(*rows)
            self.assertEqual(slip_of(made), first_slip(rows), rows)
            self.assertEqual(slip_of(rows=made), first_slip(rows))
            self.assertIn(type(slip_of(made)), [int, type(None)])
            told = singles_of(made)
            self.assertEqual(told, singles(rows), rows)
            self.assertEqual(singles_of(rows=made), told)
            self.assertIs(type(told), tuple)
            self.assertTrue(all(type(number) is int for number in told))
            self.assertEqual(made, rows_of(*rows))

    def test_told_slips(self):
        for rows, slip in [((5,), None), ((1, 2), None), ((1, 2, 3, 4), None), ((2, 1), 1), ((1, 1), 1), ((1, 2, 2, 3), 2),
                           ((1, 3, 2, 1), 2), ((1, 2, 3, 0), 3), ((1, 9, 3, 4), 2), ((9, 1, 2, 3), 1), ((3, 2, 1), 1)]:
            self.assertEqual(slip_of(rows_of(*rows)), slip)

    def test_told_singles(self):
        for rows, told in [((5,), (0,)), ((1, 2), (0, 1)), ((1, 2, 3), (0, 1, 2)), ((2, 1), (0, 1)), ((1, 1), (0, 1)),
                           ((1, 2, 2, 3), (1, 2)), ((1, 9, 3, 4), (1,)), ((1, 2, 0, 3), (2,)), ((9, 1, 2, 3), (0,)),
                           ((1, 2, 3, 0), (3,)), ((1, 3, 2, 4), (1, 2)), ((3, 2, 1), ()), ((2, 1, 4, 3), ()),
                           ((1, 1, 1), ()), ((1, 2, 5, 4), (2, 3)), ((1, 2, 1), (2,)), ((2, 1, 2), (0,))]:
            self.assertEqual(singles_of(rows_of(*rows)), told, rows)

    def test_of_24_rows(self):
        rows = [Fraction(at) for at in range(24)]
        self.assertIsNone(slip_of(rows_of(*rows)))
        self.assertEqual(singles_of(rows_of(*rows)), tuple(range(24)))
        for at in range(1, 24):
            slipped = rows[:at] + [rows[at - 1]] + rows[at + 1:]
            self.assertEqual(slip_of(rows_of(*slipped)), at)
            self.assertEqual(singles_of(rows_of(*slipped)), (at - 1, at))

    def test_exact_where_points_would_round(self):
        self.assertIsNone(slip_of(rows_of(2 ** 53, 2 ** 53 + 1)))
        self.assertEqual(slip_of(rows_of(2 ** 53 + 1, 2 ** 53)), 1)
        self.assertEqual(slip_of(rows_of(1, 1 + TINY, 1)), 2)

    def test_no_row_at_all_fails_nothing(self):
        self.assertIsNone(slip_of(()))
        self.assertEqual(singles_of(()), ())

    def test_asked_again_the_same_is_told(self):
        rows = rows_of(1, 3, 2, 4)
        for unused in range(3):
            self.assertEqual((slip_of(rows), singles_of(rows), steps_of(rows)), (2, (1, 2), ("odd", 2)))
        self.assertEqual(rows, rows_of(1, 3, 2, 4))


class StepsOfTables(unittest.TestCase):
    def test_beside_the_document_s_words(self):
        for rows in short_tables():
            if len(rows) > 1:
                made = rows_of(*rows)
                told = steps_of(made)
                self.assertEqual(told, steps(rows), rows)
                self.assertEqual(steps_of(rows=made), told)
                self.assertIs(type(told), tuple)
                self.assertIs(type(told[1]), {"even": Measure, "odd": int}[told[0]])
                self.assertEqual(made, rows_of(*rows))

    def test_told_ones(self):
        half = Measure(1, 2)
        for rows, told in [((1, 2), ("even", Measure(1))), ((1, 2, 3), ("even", Measure(1))), ((2, 1), ("odd", 1)),
                           ((1, 1), ("odd", 1)), ((1, 1, 1), ("odd", 1)), ((3, 2, 1), ("odd", 1)),
                           ((1, 2, 4), ("odd", 2)), ((1, 2, 2), ("odd", 2)), ((1, 2, 1), ("odd", 2)),
                           ((1, 3, 5, 6), ("odd", 3)), ((0, "1/2", 1, "3/2"), ("even", half)),
                           ((-1, "-1/2", 0), ("even", half)), ((0, "1/3", "2/3", "4/3"), ("odd", 3)),
                           ((0, 10 ** 40, 2 * 10 ** 40 + 1), ("odd", 2)), ((5, 1, 2, 3), ("odd", 1))]:
            self.assertEqual(steps_of(rows_of(*rows)), told, rows)

    def test_of_24_rows(self):
        rows = [Fraction(at, 7) for at in range(24)]
        self.assertEqual(steps_of(rows_of(*rows)), ("even", Measure(1, 7)))
        for at in range(2, 24):
            self.assertEqual(steps_of(rows_of(*rows[:at], rows[at] + TINY, *rows[at + 1:])), ("odd", at))
        self.assertEqual(steps_of(rows_of(rows[0], rows[1] + TINY, *rows[2:])), ("odd", 2))

    def test_too_few_rows_fail_nothing(self):
        for rows in [(), rows_of(7)]:
            word, step = steps_of(rows)
            self.assertEqual(word, "even")
            self.assertTrue(Measure(0).is_below(step))


if __name__ == "__main__":
    unittest.main()
