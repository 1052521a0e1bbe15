"""Point 2, and the interface's list of errors: the classes, where they stand, and their values."""

import unittest

from sizeladders import errors
from sizeladders.errors import (LadderError, LandError, LandTwice, NoBottom, NoLadder, NoLand, NoLine, NoMeasure,
                                NoSize, NoStretch, NoText, NothingBack, Slip)
from tests.things import no_measures, no_whole_numbers

BASES = {
    LadderError: ValueError, NoMeasure: LadderError, NoStretch: LadderError, NoLadder: LadderError,
    NoLine: LadderError, Slip: LadderError, NoText: LadderError,
    LandError: LookupError, NoSize: LandError, NoLand: LandError, LandTwice: LandError,
    NoBottom: ZeroDivisionError, NothingBack: IndexError,
}

MADE = {
    NoMeasure: NoMeasure("words"), NoStretch: NoStretch("words"), NoLadder: NoLadder("words"),
    NoLine: NoLine("words"), Slip: Slip(3), NoText: NoText(2, "slip"), NoSize: NoSize(7), NoLand: NoLand("uk"),
    LandTwice: LandTwice("uk"), NoBottom: NoBottom("words"), NothingBack: NothingBack("words"),
}

KINDS = {
    NoMeasure: [LadderError, ValueError], NoStretch: [LadderError, ValueError], NoLadder: [LadderError, ValueError],
    NoLine: [LadderError, ValueError], Slip: [LadderError, ValueError], NoText: [LadderError, ValueError],
    NoSize: [LandError, LookupError], NoLand: [LandError, LookupError], LandTwice: [LandError, LookupError],
    NoBottom: [ZeroDivisionError, ArithmeticError], NothingBack: [IndexError, LookupError],
}


class WhereErrorsStand(unittest.TestCase):
    def test_each_stands_straight_under_its_own_base(self):
        for error, base in BASES.items():
            with self.subTest(error=error.__name__):
                self.assertEqual(error.__bases__, (base,))
                self.assertEqual(error.__module__, "sizeladders.errors")

    def test_there_are_no_other_classes(self):
        classes = [thing for thing in vars(errors).values() if isinstance(thing, type)]
        self.assertCountEqual(classes, list(BASES))

    def test_of_which_classes_each_is_and_is_not(self):
        others = list(BASES) + [ValueError, LookupError, ZeroDivisionError, ArithmeticError, IndexError, KeyError,
                                TypeError, RuntimeError, OSError]
        for error, made in MADE.items():
            for other in others:
                with self.subTest(error=error.__name__, other=other.__name__):
                    self.assertEqual(isinstance(made, other), other is error or other in KINDS[error])

    def test_each_is_caught_by_its_base(self):
        for error, base in BASES.items():
            if error in MADE:
                with self.subTest(error=error.__name__), self.assertRaises(base):
                    raise MADE[error]


class ValuesOfErrors(unittest.TestCase):
    def test_those_made_with_a_text_say_it(self):
        for error in [NoMeasure, NoStretch, NoLadder, NoLine, NoBottom, NothingBack]:
            with self.subTest(error=error.__name__):
                self.assertEqual(str(error("some words")), "some words")
                self.assertEqual(str(error("")), "")

    def test_slip(self):
        self.assertEqual(Slip(1).row, 1)
        self.assertEqual(Slip(23).row, 23)
        self.assertEqual(Slip(row=4).row, 4)

    def test_no_text(self):
        for row in [0, 1, 40]:
            self.assertEqual((NoText(row).row, NoText(row).why), (row, "form"))
            for why in ["form", "slip", "span", "step", "name"]:
                with self.subTest(row=row, why=why):
                    for made in [NoText(row, why), NoText(row, why=why), NoText(why=why, row=row)]:
                        self.assertEqual((made.row, made.why), (row, why))

    def test_values_are_the_very_things_handed_in(self):
        for thing in no_whole_numbers() + no_measures() + [-1, 24, 10 ** 5000, "uk"]:
            for error, name in [(NoSize, "number"), (NoLand, "name"), (LandTwice, "name")]:
                self.assertIs(getattr(error(thing), name), thing)
                self.assertIs(getattr(error(**{name: thing}), name), thing)

    def test_values_are_each_object_s_own(self):
        one, other = NoSize(1), NoSize(2)
        self.assertEqual((one.number, other.number), (1, 2))
        one, other = NoText(0), NoText(1, "span")
        self.assertEqual((one.row, one.why, other.row, other.why), (0, "form", 1, "span"))
        for made in [Slip(1), NoText(1), NoSize(1), NoLand("a"), LandTwice("a")]:
            self.assertTrue(vars(made))

    def test_arguments_are_as_many_as_told(self):
        for wrong in [lambda: Slip(), lambda: Slip(1, 2), lambda: NoText(), lambda: NoText(1, "form", 3),
                      lambda: NoSize(), lambda: NoSize(1, 2), lambda: NoLand(), lambda: NoLand("a", "b"),
                      lambda: LandTwice(), lambda: LandTwice("a", "b")]:
            with self.assertRaises(TypeError):
                wrong()

    def test_a_message_can_always_be_shown(self):
        for thing in no_whole_numbers() + [10 ** 5000]:
            for made in [NoSize(thing), NoLand(thing), LandTwice(thing), Slip(thing), NoText(thing, thing)]:
                self.assertIsInstance(str(made), str)


if __name__ == "__main__":
    unittest.main()
