"""Points 2, 3 (c) and 10: the looker at rounds."""

import unittest
from fractions import Fraction

from sizeladders.ladders import Ladder, even
from sizeladders.measures import Measure
from sizeladders.roundlooks import shows_round
from sizeladders.rounds import round_from
from tests.roundwords import (ALL, HIGH, LOW, NEVER, all_rows, comes_back, is_right, made_of, runs_of, some_rounds,
                              stopping_rounds)
from tests.things import anything, otherwise
from tests.words import SIDE_BY_SIDE, marks_of, plain_of

FINE = (marks_of(1, "3/2", 2, "5/2", 3), "near", None, None)
COARSE = (marks_of(1, 2, 3), "down", None, None)


class LookingAtRounds(unittest.TestCase):
    def test_what_round_from_tells(self):
        for plains in some_rounds():
            made = made_of(plains)
            for number in range(len(made[0])):
                told = round_from(made, number)
                self.assertIs(shows_round(made, number, told), True)
                self.assertIs(shows_round(thing=told, number=number, ladders=made), True)
            self.assertEqual(tuple(plain_of(ladder) for ladder in made), plains)

    def test_of_another_start(self):
        for plains in some_rounds()[::11]:
            made = made_of(plains)
            for number in range(len(made[0])):
                for other in range(len(made[0])):
                    told = round_from(made, other)
                    self.assertIs(shows_round(made, number, told), number == other)

    def test_other_right_rows(self):
        seen = 0
        for plains in [(LOW, FINE), (FINE, COARSE), (COARSE, FINE, LOW), (FINE, LOW, COARSE), (LOW, COARSE, LOW, COARSE),
                       (LOW, ALL)] + some_rounds()[:60:7]:
            made = made_of(plains)
            for number in range(len(made[0])):
                if not comes_back(plains, number):
                    continue
                word, runs, low, high = round_from(made, number)
                for row in all_rows(plains, number):
                    for thing in [(word, runs, row, high), (word, runs, low, row), (word, runs, row, row)]:
                        meant = is_right(plains, number, thing)
                        self.assertIs(shows_round(made, number, thing), meant, (plains, number, thing))
                        seen += meant and thing != (word, runs, low, high)
        self.assertGreater(seen, 100)

    def test_with_one_thing_otherwise(self):
        taken = refused = 0
        for plains in [(LOW, FINE), (FINE, COARSE, LOW), (COARSE, COARSE, FINE, LOW, ALL), (LOW, ALL, HIGH), (LOW, HIGH),
                       (NEVER, LOW), (LOW, LOW, ALL, HIGH, LOW), (SIDE_BY_SIDE[4], SIDE_BY_SIDE[8], SIDE_BY_SIDE[0])]:
            made = made_of(plains)
            for number in range(len(made[0])):
                told = round_from(made, number)
                for thing in otherwise(told):
                    meant = is_right(plains, number, thing)
                    self.assertIs(shows_round(made, number, thing), meant, (plains, number, thing))
                    taken += meant
                    refused += not meant
        self.assertGreater(taken, 20)
        self.assertGreater(refused, 5000)

    def test_stops_where_one_could_go_on(self):
        for plains in [(LOW, FINE), (FINE, COARSE, LOW), (LOW, ALL, HIGH), (LOW, LOW, ALL, HIGH, LOW), (LOW, HIGH)]:
            made = made_of(plains)
            for number in range(len(made[0])):
                runs = runs_of(plains, number)
                for many in range(len(runs) + 1):
                    thing = ("stops", runs[:many])
                    meant = many == len(runs) and not comes_back(plains, number)
                    self.assertIs(shows_round(made, number, thing), meant, (plains, number, thing))

    def test_stops_told_too_far(self):
        for plains in stopping_rounds():
            made = made_of(plains)
            for number in range(len(made[0])):
                runs = runs_of(plains, number)
                for more in [(0, 0), (0, 1), (1, 0), (0, -1), (None, None), (), None]:
                    self.assertIs(shows_round(made, number, ("stops", runs + (more,))), False)
                    self.assertIs(shows_round(made, number, ("comes", runs + (more,), ((), ()), ((), ()))), False)
                self.assertIs(shows_round(made, number, ("comes", runs)), False)

    def test_rows_to_the_wrong_end(self):
        made = made_of((FINE, COARSE))
        word, runs, low, high = round_from(made, 2)
        self.assertNotEqual(low[0][-1], high[0][-1])
        self.assertIs(shows_round(made, 2, (word, runs, low, high)), True)
        for thing in [(word, runs, high, low), (word, runs, low, low), (word, runs, high, high)]:
            self.assertIs(shows_round(made, 2, thing), False)

    def test_runs_wider_or_narrower(self):
        made = made_of((FINE, COARSE))
        word, runs, low, high = round_from(made, 2)
        for at, (first, last) in enumerate(runs):
            for run in [(first - 1, last), (first, last + 1), (first + 1, last), (first, last - 1), (last, first + 1)]:
                self.assertNotEqual(run, runs[at])
                thing = (word, runs[:at] + (run,) + runs[at + 1:], low, high)
                self.assertIs(shows_round(made, 2, thing), False, thing)

    def test_rows_that_leave_their_runs(self):
        # Each step of the wrong rows holds, but they go from another start.
        home, wide = even(Measure(1), Measure(1), 4), even(Measure(2), Measure(2), 2)
        word, runs, low, high = round_from((home, wide), 0)
        self.assertEqual((word, runs), ("comes", ((0, 0), (0, 0), (0, 1))))
        for row in [((1, 0, 1), (Measure(2), Measure(2))), ((2, 1, 2), (Measure(3), Measure(3)))]:
            self.assertIs(shows_round((home, wide), 0, (word, runs, low, row)), False)
        self.assertIs(shows_round((home, wide), 0, (word, runs, low, ((0, 0, 1), (Measure(1), Measure(2))))), True)

    def test_measures_that_come_to_one_side_only(self):
        home, other = even(Measure(1), Measure(1), 3), even(Measure(1), Measure(1), 3, "down")
        word, runs, low, high = round_from((home, other), 1)
        self.assertEqual(runs, ((1, 1), (0, 1), (0, 2)))
        right = ((1, 1, 2), (Measure(2), Measure(5, 2)))
        self.assertIs(shows_round((home, other), 1, (word, runs, low, right)), True)
        for measures in [(Measure(3, 2), Measure(5, 2)), (Measure(5, 2), Measure(5, 2)), (Measure(2), Measure(2)),
                         (Measure(2), Measure(3)), (Measure(2), Measure(9)), (Measure(-9), Measure(5, 2))]:
            self.assertIs(shows_round((home, other), 1, (word, runs, low, (right[0], measures))), False, measures)

    def test_truths_are_no_numbers_and_lists_no_tuples(self):
        made = made_of((LOW, LOW))
        for number, truth in [(0, False), (1, True)]:
            word, runs, low, high = round_from(made, number)
            sizes, measures = low
            self.assertIs(shows_round(made, number, (word, runs, low, high)), True)
            for thing in [[word, runs, low, high], (word, list(runs), low, high), (word, runs, list(low), high),
                          (word, runs, low, list(high)), (word, runs, (list(sizes), measures), high),
                          (word, runs, (sizes, list(measures)), high), (word, ([number, number],) + runs[1:], low, high),
                          (word, ((truth, number),) + runs[1:], low, high), (word, ((truth, truth),) * 3, low, high),
                          (word, runs, ((truth,) + sizes[1:], measures), high), (word, runs, low, ((truth,) * 3, measures)),
                          (word, ((Fraction(number), number),) + runs[1:], low, high), (True, runs, low, high),
                          ("Comes", runs, low, high), (b"comes", runs, low, high), ("stops", runs, low, high)]:
                self.assertIs(shows_round(made, number, thing), False, thing)
            alone = made_of((LOW, HIGH))
            self.assertIs(shows_round(alone, number, ("stops", ((number, number),))), True)
            for thing in [["stops", ((number, number),)], ("stops", [(number, number)]), ("stops", ([number, number],)),
                          ("stops", ((truth, number),)), ("stops", ((number, truth),)), ("stops", (number, number)),
                          ("stops", ()), ("stops",), ("stops", ((number, number),), ()), "stops", ("comes", ((number,),))]:
                self.assertIs(shows_round(alone, number, thing), False, thing)

    def test_of_anything(self):
        for plains in [(LOW, FINE), (LOW, HIGH), (FINE, COARSE, LOW)]:
            made = made_of(plains)
            told = round_from(made, 0)
            for thing in anything():
                wholes = [thing, (thing,), [thing], (thing,) * 2, (thing,) * 4, told + (thing,), ("stops", thing),
                          ("stops", (thing,)), ("comes", thing, thing, thing), ("comes", (thing,) * 3, (), ())]
                wholes += [told[:at] + (thing,) + told[at + 1:] for at in range(len(told))]
                if told[0] == "comes":
                    word, runs, low, high = told
                    wholes += [(word, runs, (thing, low[1]), high), (word, runs, (low[0], thing), high),
                               (word, runs, low, (high[0], (thing,) * len(high[1]))), (word, (thing,) + runs[1:], low, high),
                               (word, runs, low, ((thing,) * len(high[0]), high[1])), (word, runs, (thing, thing), high)]
                for whole in wholes:
                    self.assertIs(shows_round(made, 0, whole), is_right(plains, 0, whole), whole)

    def test_what_is_handed_in_stays(self):
        made = made_of((LOW, FINE))
        held = ["comes", [[0, 0]], [[0], [Measure(1)]], [[0], [Measure(1)]]]
        for thing in [held, tuple(held), ("comes", held, held, held), ("stops", held)]:
            shows_round(made, 0, thing)
        self.assertEqual(held, ["comes", [[0, 0]], [[0], [Measure(1)]], [[0], [Measure(1)]]])
        self.assertEqual(tuple(plain_of(ladder) for ladder in made), (LOW, FINE))

    def test_asked_again_the_same_is_told(self):
        made = (Ladder((Measure(1), Measure(2))), Ladder((Measure(1), Measure(2)), "near"))
        told = round_from(made, 1)
        for unused in range(3):
            self.assertIs(shows_round(made, 1, told), True)
            self.assertIs(shows_round(made, 0, told), False)


if __name__ == "__main__":
    unittest.main()
