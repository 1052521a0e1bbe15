"""Points 1 to 3 (g) and 8: the most rows that rise, and the numbers that show that no more do."""

import itertools
import unittest
from fractions import Fraction

from sizeladders.rising import rise_of, shows_rise
from tests.test_slips import do_rise, rows_of, short_tables
from tests.things import anything, otherwise, refusal_of, strangers


def most_that_rise(rows):
    """How many rows rise at most, by the size of all choices of few rows, and by their own lengths of many."""
    if len(rows) <= 6:
        return max(many for many in range(len(rows) + 1)
                   if any(do_rise(chosen) for chosen in itertools.combinations(rows, many)))
    longest = []
    for at, row in enumerate(rows):
        longest.append(1 + max([longest[k] for k in range(at) if rows[k] < row], default=0))
    return max(longest)


def are_numbers(thing):
    return type(thing) is tuple and all(type(part) is int for part in thing)


def is_right(rows, thing):
    """Whether thing is (kept, numbers) of the rows, by the document's words."""
    if type(thing) is not tuple or len(thing) != 2 or not all(are_numbers(part) for part in thing):
        return False
    kept, numbers = thing
    if list(kept) != sorted(set(kept)) or not set(kept) <= set(range(len(rows))):
        return False
    if not do_rise([rows[at] for at in kept]) or len(numbers) != len(rows):
        return False
    if any(not 0 <= number < len(kept) for number in numbers):
        return False
    return all(numbers[one] != numbers[other] or rows[other] <= rows[one]
               for one, other in itertools.combinations(range(len(rows)), 2))


class TheMostRowsThatRise(unittest.TestCase):
    def test_beside_the_document_s_words(self):
        for rows in short_tables():
            made = rows_of(*rows)
            told = rise_of(made)
            self.assertTrue(is_right(rows, told), (rows, told))
            self.assertEqual(len(told[0]), most_that_rise(rows))
            self.assertEqual(rise_of(rows=made), told)
            self.assertIs(shows_rise(made, told), True)
            self.assertEqual(made, rows_of(*rows))

    def test_told_ones(self):
        for rows, many in [((5,), 1), ((1, 2, 3), 3), ((3, 2, 1), 1), ((1, 1, 1), 1), ((1, 3, 2, 4), 3),
                           ((2, 1, 4, 3, 6, 5), 3), ((5, 1, 6, 2, 7, 3, 8, 4), 4), ((9, 1, 2, 3), 3), ((1, 2, 3, 0), 3),
                           ((1, 2, 2, 3), 3)]:
            kept, numbers = rise_of(rows_of(*rows))
            self.assertEqual(len(kept), many)
            self.assertTrue(is_right([Fraction(row) for row in rows], (kept, numbers)))

    def test_of_24_rows(self):
        up, down = list(range(24)), list(range(24))[::-1]
        self.assertEqual(rise_of(rows_of(*up)), (tuple(up), tuple(up)))
        kept, numbers = rise_of(rows_of(*down))
        self.assertEqual((len(kept), numbers), (1, (0,) * 24))
        self.assertEqual(rise_of(rows_of(*[7] * 24))[1], (0,) * 24)
        mixed = [at * 7 % 24 for at in range(24)]
        told = rise_of(rows_of(*mixed))
        self.assertTrue(is_right([Fraction(row) for row in mixed], told))

    def test_no_row_at_all_fails_nothing(self):
        self.assertEqual(rise_of(()), ((), ()))
        self.assertIs(shows_rise((), ((), ())), True)
        self.assertIs(shows_rise((), ((0,), ())), False)

    def test_asked_again_the_same_is_told(self):
        rows = rows_of(5, 1, 6, 2, 7, 3)
        first = rise_of(rows)
        for unused in range(3):
            self.assertEqual(rise_of(rows), first)
            self.assertIs(shows_rise(rows, first), True)


class LookingAtARise(unittest.TestCase):
    def test_every_choice_for_few_rows(self):
        right = 0
        for rows in itertools.product([Fraction(0), Fraction(1, 2), Fraction(1)], repeat=3):
            made = rows_of(*rows)
            for many in range(5):
                for kept in itertools.product(range(-1, 4), repeat=min(many, 3)):
                    for numbers in itertools.product(range(-1, 4), repeat=3):
                        thing = (kept + (3,) * (many - len(kept)), numbers)
                        meant = is_right(rows, thing)
                        self.assertIs(shows_rise(made, thing), meant, (rows, thing))
                        right += meant
        self.assertGreater(right, 27)

    def test_with_one_thing_otherwise(self):
        taken = 0
        for rows in [(5,), (1, 2, 3), (3, 2, 1), (1, 3, 2, 4), (2, 1, 4, 3, 6, 5), (1, 1, 2, 2, 1), tuple(range(24)),
                     tuple(at * 7 % 24 for at in range(24))]:
            made = rows_of(*rows)
            told = rise_of(made)
            for thing in otherwise(told):
                meant = is_right([Fraction(row) for row in rows], thing)
                self.assertIs(shows_rise(made, thing), meant, (rows, thing))
                self.assertIs(shows_rise(rows=made, thing=thing), meant)
                taken += meant
        self.assertGreater(taken, 0)

    def test_other_right_things(self):
        rows = rows_of(1, 3, 2, 4)
        for kept in [(0, 1, 3), (0, 2, 3)]:
            self.assertIs(shows_rise(rows, (kept, (0, 1, 1, 2))), True)
            self.assertIs(shows_rise(rows, (kept, (2, 0, 0, 1))), True)
        self.assertIs(shows_rise(rows, ((0, 1, 3), (0, 1, 2, 1))), False)

    def test_wrong_ones(self):
        rows = rows_of(1, 3, 2, 4)
        for thing in [((0, 1), (0, 1, 1, 1)), ((0, 1), (0, 1, 1, 2)), ((1, 3), (0, 0, 0, 1)), ((0, 1, 2, 3), (0, 1, 1, 2)),
                      ((3, 1, 0), (0, 1, 1, 2)), ((0, 0, 1), (0, 1, 1, 2)), ((0, 1, 4), (0, 1, 1, 2)),
                      ((-1, 0, 1), (0, 1, 1, 2)), ((-4, 1, 3), (0, 1, 1, 2)), ((0, 1, 3), (0, 1, 1, 3)),
                      ((0, 1, 3), (-1, 0, 0, 1)), ((0, 1, 3), (0, 1, 1)), ((0, 1, 3), (0, 1, 1, 2, 2)),
                      ((0, 1, 3), (0, 0, 1, 2)), ((0, True, 3), (0, 1, 1, 2)), ((False, 1, 3), (0, 1, 1, 2)),
                      ((0, 1, 3), (False, 1, 1, 2)), ((0, 1, 3), (0, True, True, 2)), ([0, 1, 3], (0, 1, 1, 2)),
                      ((0, 1, 3), [0, 1, 1, 2]), [(0, 1, 3), (0, 1, 1, 2)], ((0, 1, 3),), ((0, 1, 3), (0, 1, 1, 2), ()),
                      ((), (0, 1, 1, 2)), ((), ()), ((0, 1, 3), ()), ((0, 1, 3), None), (None, (0, 1, 1, 2)),
                      ("013", "0112"), ((0, 1, 10 ** 400), (0, 1, 1, 2)), ((0, 1, 3), (0, 1, 1, 10 ** 5000)),
                      ((0, 1, 3), (0, 1, 1, "2")), ((Fraction(0), 1, 3), (0, 1, 1, 2))]:
            self.assertIs(shows_rise(rows, thing), False, thing)

    def test_of_anything(self):
        for rows in [rows_of(1), rows_of(1, 2), rows_of(2, 1), rows_of(*range(24))]:
            kept, numbers = rise_of(rows)
            for thing in anything() + strangers():
                for whole in [thing, (thing, numbers), (kept, thing), (thing, thing), (kept, numbers, thing),
                              (kept[:-1] + (thing,), numbers), (kept, numbers[:-1] + (thing,)), [thing], (thing,)]:
                    told = shows_rise(rows, whole)
                    self.assertIs(told, is_right([Fraction(row.top, row.bottom) for row in rows], whole), whole)

    def test_what_is_handed_in_stays(self):
        rows, thing, held = rows_of(1, 3, 2), ((0, 1), (0, 1, 1)), [[0, 1], [0, 1, 1]]
        refusal_of(lambda: shows_rise(rows, held))
        shows_rise(rows, thing)
        self.assertEqual((rows, thing, held), (rows_of(1, 3, 2), ((0, 1), (0, 1, 1)), [[0, 1], [0, 1, 1]]))


if __name__ == "__main__":
    unittest.main()
