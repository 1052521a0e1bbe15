"""Points 2, 3 (e) and 13: the looker at stock."""

import unittest

from sizeladders.ladders import even
from sizeladders.measures import Measure
from sizeladders.stock import stock_for
from sizeladders.stocklooks import shows_stock
from tests.stockwords import NEVER, SMALL, all_stocks, is_right, made_of
from tests.things import LikeAll, Touchy, anything, otherwise

NOUGHT, HALF, ONE, TWO = Measure(0), Measure(1, 2), Measure(1), Measure(2)


class LookingAtStock(unittest.TestCase):
    def test_what_stock_for_tells(self):
        for line in SMALL + NEVER:
            ladder, feet, slack, tight = made_of(*line)
            told = stock_for(ladder, feet, slack, tight)
            self.assertIs(shows_stock(ladder, feet, slack, tight, told), True)
            self.assertIs(shows_stock(thing=told, tight=tight, slack=slack, feet=feet, ladder=ladder), True)
            told = stock_for(ladder, feet, slack)
            self.assertIs(shows_stock(ladder, feet, slack, None, told), True)
            self.assertIs(shows_stock(ladder, feet, slack, NOUGHT, told), True)
        ladder = even(ONE, HALF, 24)
        for slack in [NOUGHT, HALF, ONE, Measure(5)]:
            told = stock_for(ladder, ladder.marks[::-1], slack)
            self.assertIs(shows_stock(ladder, ladder.marks[::-1], slack, None, told), True)
            self.assertIs(shows_stock(ladder, ladder.marks[::-1], slack.plus(HALF), None, told), False)

    def test_other_right_stocks_and_wrong_ones(self):
        taken = refused = 0
        for line in SMALL:
            asked = made_of(*line)
            told = stock_for(*asked)
            for thing in all_stocks(*line):
                meant = is_right(*line, thing)
                self.assertIs(shows_stock(*asked, thing), meant, (line, thing))
                taken += meant and thing != told
                refused += not meant
        self.assertGreater(taken, 50)
        self.assertGreater(refused, 1000)

    def test_more_sizes_than_needed_with_too_many_feet(self):
        ladder, feet = even(ONE, ONE, 6), tuple(Measure(number) for number in [1, 2, 3, 4, 5, 6])
        self.assertIs(shows_stock(ladder, feet, ONE, None, ("stock", (1, 3, 5), (0, 2, 4))), True)
        for thing in [("stock", (1, 3, 5), (0, 2)), ("stock", (1, 3), (0, 2)), ("stock", (1, 2, 3, 5), (0, 2, 4)),
                      ("stock", (1, 2, 3, 5), (0, 1, 2, 4)), ("stock", (1, 3, 5), (0, 1, 4)), ("stock", (0, 3, 5), (0, 2, 4)),
                      ("stock", (5, 3, 1), (0, 2, 4)), ("stock", (1, 3, 5), (4, 2, 0)), ("stock", (1, 1, 3, 5), (0, 2, 4, 4)),
                      ("stock", (1, 3, 3), (0, 2, 4)), ("stock", (1, 3, 5), (0, 2, 2)), ("stock", (1, 3, 6), (0, 2, 4)),
                      ("stock", (-1, 1, 3, 5), (0, 2, 4)), ("stock", (1, 3, 5), (0, 2, 6)), ("stock", (1, 3, 5), (-6, 2, 4)),
                      ("stock", (1, 3, 5)), ("stock", (1, 3, 5), (0, 2, 4), ()), ("never", 0), ("never", 6), ("never", None),
                      ("stock", [1, 3, 5], (0, 2, 4)), ("stock", (1, 3, 5), [0, 2, 4]), ["stock", (1, 3, 5), (0, 2, 4)],
                      ("stock", (True, 3, 5), (0, 2, 4)), ("stock", (1, 3, 5), (False, 2, 4)), ("stock", (), ()),
                      ("Stock", (1, 3, 5), (0, 2, 4)), ((1, 3, 5), (0, 2, 4)), ("stock", (0, 2, 4), (1, 3, 5))]:
            self.assertIs(shows_stock(ladder, feet, ONE, None, thing), False, thing)

    def test_never(self):
        for line in NEVER:
            asked, number = made_of(*line), line[-1]
            feet = asked[1]
            for other in range(-len(feet), len(feet) + 2):
                self.assertIs(shows_stock(*asked, ("never", other)), other == number, (line, other))
            for thing in [["never", number], ("never",), ("never", number, ()), ("never", (number,)), ("stock", number),
                          ("never", number == 1), ("never", bool(number)), ("never", str(number)), ("never", feet[number]),
                          ("Never", number), ("stock", (0,), (0,)), ("stock", (), ()), (number,), "never", number]:
                self.assertIs(shows_stock(*asked, thing), False, (line, thing))
        for line in SMALL:
            for number in range(-1, len(line[1]) + 1):
                self.assertIs(shows_stock(*made_of(*line), ("never", number)), False)

    def test_with_one_thing_otherwise(self):
        taken = refused = 0
        for line in SMALL + NEVER:
            asked, line = made_of(*line), line[:4]
            for thing in otherwise(stock_for(*asked)):
                meant = is_right(*line, thing)
                self.assertIs(shows_stock(*asked, thing), meant, (line, thing))
                taken += meant
                refused += not meant
        self.assertGreater(taken, 20)
        self.assertGreater(refused, 2000)

    def test_of_anything(self):
        for line in [SMALL[1], SMALL[6], NEVER[2]]:
            asked, line = made_of(*line), line[:4]
            told = stock_for(*asked)
            for thing in anything():
                wholes = [thing, (thing,), [thing], (thing,) * 2, (thing,) * 3, told + (thing,), ("stock", thing, thing),
                          ("stock", (thing,), (thing,)), ("never", thing), ("never", (thing,)), ("stock", thing)]
                wholes += [told[:at] + (thing,) + told[at + 1:] for at in range(len(told))]
                if told[0] == "stock":
                    word, sizes, apart = told
                    wholes += [(word, sizes[:-1] + (thing,), apart), (word, sizes, (thing,) + apart[1:])]
                for whole in wholes:
                    self.assertIs(shows_stock(*asked, whole), is_right(*line, whole), whole)

    def test_asked_again_the_same_is_told_and_nothing_changes(self):
        ladder, feet = even(ONE, ONE, 4), (ONE, TWO)
        held = ["stock", [0, 1], [0, 1]]
        for unused in range(3):
            for thing in [held, tuple(held), ("stock", held, held), (held, LikeAll(), Touchy())]:
                self.assertIs(shows_stock(ladder, feet, NOUGHT, None, thing), False)
            self.assertIs(shows_stock(ladder, feet, NOUGHT, None, ("stock", (0, 1), (0, 1))), True)
        self.assertEqual(held, ["stock", [0, 1], [0, 1]])
        self.assertEqual((ladder, feet), (even(ONE, ONE, 4), (ONE, TWO)))


if __name__ == "__main__":
    unittest.main()
