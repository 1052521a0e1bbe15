"""Points 1 to 3 (c), 10 and 11: going round ladders by sizes, and how far one drifts."""

import unittest

from sizeladders.ladders import Ladder, even
from sizeladders.measures import Measure
from sizeladders.roundlooks import shows_round
from sizeladders.rounds import most_drift, round_from
from tests.roundwords import (HIGH, LOW, NEVER, comes_back, is_right, is_row, made_of, runs_of, some_rounds,
                              stopping_rounds)
from tests.words import is_number, plain_of


class GoingRound(unittest.TestCase):
    def test_beside_the_document_s_words(self):
        comes = stops = drifting = 0
        for plains in some_rounds():
            made = made_of(plains)
            for number in range(len(made[0])):
                told = round_from(made, number)
                self.assertTrue(is_right(plains, number, told), (plains, number, told))
                comes += told[0] == "comes"
                stops += told[0] == "stops"
                drifting += told[1][-1] != (number, number)
            self.assertEqual(tuple(plain_of(ladder) for ladder in made), plains)
        self.assertGreater(min(comes, stops, drifting), 100)

    def test_where_one_stops(self):
        for plains, many in stopping_rounds().items():
            made = made_of(plains)
            for number in range(len(made[0])):
                word, runs = round_from(made, number)
                self.assertEqual((word, len(runs), runs[0]), ("stops", many, (number, number)))
                self.assertEqual(runs, runs_of(plains, number))

    def test_told_ones(self):
        halves, wholes = even(Measure(3), Measure(1, 2), 5), even(Measure(3), Measure(1), 3)
        for number, runs in enumerate([((0, 0), (0, 0), (0, 0)), ((1, 1), (1, 1), (1, 2)), ((2, 2), (1, 1), (1, 2)),
                                       ((3, 3), (2, 2), (3, 4)), ((4, 4), (2, 2), (3, 4))]):
            self.assertEqual(round_from((halves, wholes), number)[:2], ("comes", runs))
        near = even(Measure(3), Measure(1), 3, "near")
        self.assertEqual(round_from((wholes, near), 1)[:2], ("comes", ((1, 1), (0, 1), (0, 2))))
        word, runs, low, high = round_from((wholes, near), 1)
        self.assertEqual((low[0], high[0]), ((1, 0, 0), (1, 1, 2)))
        self.assertEqual([wholes.size(measure) for measure in low[1]], [1, 0])
        self.assertEqual([near.size(measure) for measure in high[1]], [1, 1])

    def test_kinds(self):
        halves, wholes = even(Measure(3), Measure(1, 2), 5), even(Measure(3), Measure(1), 3)
        told = round_from((halves, wholes, halves), 2)
        self.assertIs(type(told), tuple)
        self.assertEqual(len(told), 4)
        self.assertTrue(all(type(run) is tuple and len(run) == 2 and all(map(is_number, run)) for run in told[1]))
        for sizes, measures in told[2:]:
            self.assertEqual((type(sizes), type(measures), len(sizes), len(measures)), (tuple, tuple, 4, 3))
            self.assertTrue(all(map(is_number, sizes)))
            self.assertTrue(all(type(measure) is Measure for measure in measures))
        self.assertEqual(round_from((Ladder((Measure(1),)), Ladder((Measure(9),), "down")), 0), ("stops", ((0, 0),)))

    def test_the_same_ladder_again(self):
        made = even(Measure(3), Measure(1, 2), 5, "near")
        for many in range(2, 6):
            for number in range(5):
                told = round_from((made,) * many, number)
                self.assertEqual(told[:2], ("comes", ((number, number),) * (many + 1)))
                for sizes, measures in told[2:]:
                    self.assertEqual(sizes, (number,) * (many + 1))
                    self.assertEqual([made.size(measure) for measure in measures], [number] * many)

    def test_a_start_that_no_measure_comes_to(self):
        made = Ladder((Measure(1), Measure(2), Measure(3)), "up", Measure(3, 2), Measure(2))
        self.assertEqual(round_from((made, made), 0), ("stops", ((0, 0),)))
        self.assertEqual(round_from((made, made), 1)[:2], ("comes", ((1, 1),) * 3))
        self.assertEqual(round_from((made, made), 2), ("stops", ((2, 2),)))

    def test_by_name(self):
        made = made_of((LOW, HIGH))
        self.assertEqual(round_from(number=1, ladders=made), round_from(made, 1))
        self.assertEqual(most_drift(ladders=made[:1] * 2), most_drift(made[:1] * 2))

    def test_somewhat_beyond_nothing_fails(self):
        made = even(Measure(3), Measure(1), 3)
        for number in [-1, 3, 24, 25]:
            told = round_from((made, made), number)
            self.assertEqual(told, ("stops", ((number, number),)))
            self.assertIs(shows_round((made, made), number, told), True)
        for many in [1, 6, 7]:
            self.assertEqual(round_from((made,) * many, 1)[:2], ("comes", ((1, 1),) * (many + 1)))
            self.assertEqual(most_drift((made,) * many)[0], 0)

    def test_asked_again_the_same_is_told(self):
        for plains in some_rounds()[::40]:
            made = made_of(plains)
            first = [round_from(made, number) for number in range(len(made[0]))], most_drift(made)
            for unused in range(2):
                self.assertEqual(([round_from(made, number) for number in range(len(made[0]))], most_drift(made)), first)


def drift_of(plains, number):
    """How far one drifts at most from a start from which one comes back."""
    return max(abs(size - number) for size in range(runs_of(plains, number)[-1][0], runs_of(plains, number)[-1][1] + 1))


class Drifting(unittest.TestCase):
    def test_beside_the_document_s_words(self):
        none = 0
        seen = {"up": 0, "down": 0}
        for plains in some_rounds():
            made = made_of(plains)
            told = most_drift(made)
            starts = [number for number in range(len(made[0])) if comes_back(plains, number)]
            self.assertEqual(tuple(plain_of(ladder) for ladder in made), plains)
            if not starts:
                self.assertIsNone(told)
                none += 1
                continue
            self.assertEqual((type(told), len(told)), (tuple, 2))
            many, row = told
            self.assertTrue(is_number(many))
            self.assertEqual(many, max(drift_of(plains, number) for number in starts), plains)
            first, last = row[0][0], row[0][-1]
            self.assertTrue(comes_back(plains, first) and is_row(plains, runs_of(plains, first), row), (plains, told))
            self.assertEqual(abs(last - first), many)
            seen["up"] += last > first
            seen["down"] += last < first
        self.assertGreater(min(none, seen["up"], seen["down"]), 10)

    def test_told_ones(self):
        halves, wholes = even(Measure(3), Measure(1, 2), 5), even(Measure(3), Measure(1), 3)
        many, (sizes, measures) = most_drift((halves, wholes))
        self.assertEqual((many, abs(sizes[-1] - sizes[0])), (1, 1))
        self.assertEqual(most_drift((wholes, wholes, wholes))[0], 0)
        wide = Ladder((Measure(0),), "near")
        self.assertEqual(most_drift((halves, wide))[0], 4)
        self.assertIsNone(most_drift(made_of((LOW, HIGH))))
        self.assertIsNone(most_drift(made_of((NEVER, NEVER))))

    def test_down_only_and_up_only(self):
        # From the upper sizes of home alone one comes back, and only down; and the other way round.
        home = even(Measure(1), Measure(1), 5)
        far = Ladder((Measure(0),), "near", Measure(9, 2), Measure(5))
        down = Ladder((Measure(0),), "near", Measure(1), Measure(5))
        many, row = most_drift((home, far, down))
        self.assertEqual((many, row[0]), (4, (4, 0, 0, 0)))
        near = Ladder((Measure(0),), "near", Measure(0), Measure(1))
        many, row = most_drift((home, near, down))
        self.assertEqual((many, row[0]), (4, (0, 0, 0, 4)))

    def test_of_24_sizes_and_five_ladders(self):
        fine, wide = even(Measure(0), Measure(1, 7), 24, "near"), Ladder((Measure(0),), "near")
        many, (sizes, measures) = most_drift((fine, wide, fine, wide, fine))
        self.assertEqual((many, abs(sizes[-1] - sizes[0]), len(sizes), len(measures)), (23, 23, 6, 5))


if __name__ == "__main__":
    unittest.main()
