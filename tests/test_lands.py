"""Points 2, 3 (h), 16 and 17: the book of lands, its deeds and its answers."""

import random
import re
import unittest
from fractions import Fraction

from sizeladders.errors import LandTwice, NoLadder, NoLand, NoSize, NothingBack
from sizeladders.ladders import Ladder, even
from sizeladders.lands import Lands
from sizeladders.leading import led
from sizeladders.measures import Measure
from tests.bookwords import (NAMES, book_of, book_text, called_in, drawn_land, drawn_lands, label_of, labels_near, lead_of,
                             told_to)
from tests.things import (LikeAll, LooksLikeLadder, LooksLikeMeasure, Touchy, a_grid, anything, measure_of, no_whole_numbers,
                          other_things, refusal_of, strangers)
from tests.words import ladder_of, plain_of

NOUGHT, HALF, ONE, TWO = Measure(0), Measure(1, 2), Measure(1), Measure(2)
HALVES, WHOLES = even(Measure(3), HALF, 5), Ladder((Measure(3), Measure(4), Measure(5)), "near", None, Measure(6))
NO_NAMES = ["", "A", "aB", "a1", "1", "a b", " a", "a ", "a-b", "a\n", "\n", "abcdefghi", "a" * 5000, "\u00e9", "\u0430",
            "\u00df", "a\u0301", "\uff41", "_", "-", "a_", "\u212a", "\u0131", "a\x00"]


def no_names():
    """Things that are no name."""
    others = [thing for thing in anything() if type(thing) is not str or not re.fullmatch("[a-z]{1,8}", thing)]
    return NO_NAMES + [b"a", ("a",), ["a"], {"a": 1}] + others


class Book(unittest.TestCase):
    """What the tests of books share."""

    def refused(self, kind, deed, **values):
        error = refusal_of(deed)
        self.assertIs(type(error), kind)
        for name in values:
            self.assertIs(getattr(error, name), values[name])

    def answers(self, book, lands):
        """The book answers as the words say of just these lands."""
        self.assertEqual(book.names(), tuple(sorted(lands)))
        self.assertEqual((len(book), str(book), repr(book)), (len(lands), book_text(lands), f"Lands({len(lands)})"))
        for name, land in lands.items():
            self.assertEqual(plain_of(book.ladder(name)), land[0])
            for number in range(len(land[0][0])):
                self.assertEqual(book.label(name, number), measure_of(label_of(land, number)))
            for label in labels_near(land):
                self.assertEqual(book.called(name, measure_of(label)), called_in(land, label), (land, label))
        for name in NAMES:
            if name not in lands:
                self.refused(NoLand, lambda: book.ladder(name), name=name)

    def leads(self, book, lands):
        for name, here in lands.items():
            for other, there in lands.items():
                for label in labels_near(here):
                    told = book.lead(name, measure_of(label), other)
                    self.assertIs(type(told), tuple)
                    self.assertEqual(told, tuple(measure_of(each) for each in lead_of(here, label, there)))


class TellingDroppingTakingBack(Book):
    def test_nothing_at_first(self):
        self.answers(Lands(), {})
        self.refused(NothingBack, lambda: Lands().back())
        self.assertEqual((len(Lands()), Lands().names(), str(Lands()), repr(Lands())), (0, (), "none", "Lands(0)"))

    def test_first_and_step_left_out_none_by_place_and_by_name(self):
        deeds = {
            (0, 1): [lambda book: book.tell("uk", HALVES), lambda book: book.tell("uk", HALVES, None),
                     lambda book: book.tell("uk", HALVES, None, None), lambda book: book.tell(ladder=HALVES, name="uk"),
                     lambda book: book.tell("uk", HALVES, NOUGHT, ONE), lambda book: book.tell("uk", HALVES, step=None),
                     lambda book: book.tell(step=None, first=None, ladder=HALVES, name="uk"),
                     lambda book: book.tell("uk", HALVES, step=ONE), lambda book: book.tell("uk", HALVES, first=NOUGHT)],
            (2, 1): [lambda book: book.tell("uk", HALVES, TWO), lambda book: book.tell("uk", HALVES, first=TWO),
                     lambda book: book.tell("uk", HALVES, TWO, None), lambda book: book.tell("uk", HALVES, TWO, ONE)],
            (0, Fraction(1, 2)): [lambda book: book.tell("uk", HALVES, None, HALF), lambda book: book.tell("uk", HALVES, step=HALF),
                                  lambda book: book.tell("uk", ladder=HALVES, step=HALF, first=NOUGHT)],
            (-2, Fraction(1, 2)): [lambda book: book.tell("uk", HALVES, Measure(-2), HALF),
                                   lambda book: book.tell(step=HALF, first=Measure(-2), ladder=HALVES, name="uk")],
        }
        for (first, step), lines in deeds.items():
            for deed in lines:
                book = Lands()
                self.assertIsNone(deed(book))
                self.answers(book, {"uk": (plain_of(HALVES), Fraction(first), Fraction(step))})
                self.assertIsNone(book.drop(name="uk"))
                self.answers(book, {})
                self.assertIsNone(book.back())
                self.assertIsNone(book.back())
                self.refused(NothingBack, book.back)

    def test_tell_refused_of_anything(self):
        book, told = book_of({"uk": (plain_of(WHOLES), Fraction(0), Fraction(1))}), "uk 0 + 1 | near: 3, 4, 5 to 6"
        for name in ["eu", "uk"]:
            for thing in anything() + [a_grid(), LooksLikeLadder(HALVES.marks), Ladder, HALVES.marks, None, book]:
                if type(thing) is not Ladder:
                    self.refused(NoLadder, lambda: book.tell(name, thing))
                    self.refused(NoLadder, lambda: book.tell(name, thing, ONE, ONE))
            for thing in anything() + [HALVES, LooksLikeMeasure(1, 1)]:
                if thing is None or type(thing) is Measure:
                    continue
                self.refused(NoLadder, lambda: book.tell(name, HALVES, thing))
                self.refused(NoLadder, lambda: book.tell(name, HALVES, ONE, thing))
                self.refused(NoLadder, lambda: book.tell(name, HALVES, first=thing))
                self.refused(NoLadder, lambda: book.tell(name, HALVES, step=thing))
                self.refused(NoLadder, lambda: book.tell(name, thing, thing, thing))
            for step in [NOUGHT, Measure(-1), Measure(-1, 10 ** 30)]:
                self.refused(NoLadder, lambda: book.tell(name, HALVES, None, step))
                self.refused(NoLadder, lambda: book.tell(name, HALVES, ONE, step))
        for thing in no_names():
            self.refused(NoLadder, lambda: book.tell(thing, HALVES))
            self.refused(NoLadder, lambda: book.tell(thing, HALVES, ONE, ONE))
            self.refused(NoLadder, lambda: book.tell(thing, thing))
        self.assertEqual(str(book), told)
        book.back()
        self.refused(NothingBack, book.back)

    def test_land_twice(self):
        book = Lands()
        name = "".join(["u", "k"])
        book.tell("uk", HALVES)
        for deed in [lambda: book.tell(name, HALVES), lambda: book.tell(name, WHOLES, ONE, HALF)]:
            self.refused(LandTwice, deed, name=name)
        self.answers(book, {"uk": (plain_of(HALVES), Fraction(0), Fraction(1))})
        book.drop("uk")
        book.tell("uk", WHOLES)
        self.refused(LandTwice, lambda: book.tell(name, HALVES), name=name)
        for unused in range(3):
            book.back()
        self.refused(NothingBack, book.back)
        self.assertEqual(len(book), 0)

    def test_drop_refused_of_anything(self):
        book = book_of({"uk": (plain_of(WHOLES), Fraction(0), Fraction(1))})
        for thing in no_names() + ["u", "ukk", "eu", "UK", " uk", "uk\n", HALVES]:
            self.refused(NoLand, lambda: book.drop(thing), name=thing)
        self.assertEqual(len(book), 1)
        book.drop("uk")
        self.refused(NoLand, lambda: book.drop("uk"))
        book.back()
        book.back()
        self.refused(NothingBack, book.back)

    def test_all_names(self):
        book = Lands()
        names = ["a", "z", "abcdefgh", "zzzzzzzz", "none", "to", "qwertyui", "opasdfgh", "jklzxcvb", "nm"]
        for name in names:
            book.tell(name, HALVES)
        self.assertEqual(book.names(), tuple(sorted(names)))

    def test_drawn_rows_of_deeds(self):
        for seed in range(12):
            draw = random.Random(seed)
            book, lands, past = Lands(), {}, []
            for turn in range(80):
                deed, name = draw.choice(["tell", "tell", "tell", "drop", "back", "back"]), draw.choice(NAMES[:6])
                if deed == "tell":
                    land = drawn_land(draw)
                    if name in lands:
                        self.refused(LandTwice, lambda: told_to(book, name, land), name=name)
                    else:
                        past.append(dict(lands))
                        lands[name] = land
                        self.assertIsNone(told_to(book, name, land))
                elif deed == "drop" and name in lands:
                    past.append(dict(lands))
                    del lands[name]
                    self.assertIsNone(book.drop(name))
                elif deed == "drop":
                    self.refused(NoLand, lambda: book.drop(name), name=name)
                elif past:
                    lands = past.pop()
                    self.assertIsNone(book.back())
                else:
                    self.refused(NothingBack, book.back)
                self.assertEqual((str(book), book.names(), len(book)), (book_text(lands), tuple(sorted(lands)), len(lands)))
                # As one that was told just what stands, in whatever order.
                order = draw.sample(sorted(lands), len(lands))
                fresh = book_of({name: lands[name] for name in order})
                self.assertTrue(book == fresh and fresh == book and not book != fresh)
                if turn % 16 == 15:
                    self.answers(book, lands)
                    self.leads(book, lands)
            while past:
                lands = past.pop()
                book.back()
                self.assertEqual(str(book), book_text(lands))
            self.refused(NothingBack, book.back)
            self.assertTrue(book == Lands())

    def test_a_long_row_of_deeds_taken_back(self):
        book = Lands()
        texts = [str(book)]
        draw = random.Random(1500)
        for turn in range(1500):
            name = draw.choice(NAMES)
            if name in book.names():
                book.drop(name)
            else:
                book.tell(name, draw.choice([HALVES, WHOLES]), Measure(turn))
            texts.append(str(book))
        for text in texts[-2::-1]:
            book.back()
            self.assertEqual(str(book), text)
        self.refused(NothingBack, book.back)
        self.assertTrue(book == Lands())

    def test_told_again_otherwise_and_taken_back(self):
        book = Lands()
        book.tell("uk", HALVES, ONE)
        book.drop("uk")
        book.tell("uk", WHOLES, TWO)
        book.tell("eu", WHOLES)
        self.assertEqual(book.label("uk", 0), TWO)
        book.back()
        book.back()
        self.assertEqual(book.names(), ())
        book.back()
        self.assertEqual((book.ladder("uk"), book.label("uk", 0)), (HALVES, ONE))
        # What was taken back is gone: a new deed stands on what is there.
        book.tell("eu", HALVES)
        book.back()
        book.back()
        self.refused(NothingBack, book.back)

    def test_two_books_side_by_side(self):
        one, other, ladder = Lands(), Lands(), ladder_of(plain_of(HALVES))
        one.tell("uk", ladder)
        self.assertEqual((len(one), len(other)), (1, 0))
        self.refused(NothingBack, other.back)
        other.tell("uk", ladder, ONE)
        other.tell("eu", ladder)
        one.drop("uk")
        self.assertEqual((one.names(), other.names()), ((), ("eu", "uk")))
        one.back()
        self.assertEqual((one.label("uk", 0), other.label("uk", 0)), (NOUGHT, ONE))
        other.back()
        other.back()
        self.assertEqual((one.names(), other.names()), (("uk",), ()))
        self.assertEqual(plain_of(ladder), plain_of(HALVES))


class AskingABook(Book):
    def test_beside_the_document_s_words(self):
        for seed in range(25):
            lands = drawn_lands(seed, seed % 6)
            book = book_of(lands)
            self.answers(book, lands)
            self.leads(book, lands)
            self.assertEqual(str(book), book_text(lands))

    def test_told_ones(self):
        book = Lands()
        book.tell("uk", HALVES, Measure(5, 2), HALF)
        book.tell("eu", WHOLES, Measure(35))
        self.assertEqual(book.names(), ("eu", "uk"))
        self.assertEqual(book.ladder("uk"), HALVES)
        self.assertEqual(book.ladder(name="eu"), WHOLES)
        self.assertEqual([book.label("uk", number) for number in range(5)], [Measure(half, 2) for half in [5, 6, 7, 8, 9]])
        self.assertEqual(book.label(number=2, name="eu"), Measure(37))
        self.assertEqual([book.called("eu", Measure(label)) for label in [34, 35, 36, 37, 38]], [None, 0, 1, 2, None])
        self.assertIsNone(book.called("eu", Measure(71, 2)))
        self.assertEqual(book.called(label=Measure(3), name="uk"), 1)
        self.assertEqual(led(HALVES, 1, WHOLES), (0, 1))
        self.assertEqual(book.lead("uk", Measure(3), "eu"), (Measure(35), Measure(36)))
        self.assertEqual(book.lead(other="eu", label=Measure(3), name="uk"), (Measure(35), Measure(36)))
        self.assertEqual(book.lead("uk", Measure(3), "uk"), (Measure(3),))
        self.assertEqual(book.lead("uk", Measure(9), "eu"), ())
        self.assertEqual(book.lead("eu", Measure(71, 2), "uk"), ())
        self.assertEqual(str(book), "eu 35 + 1 | near: 3, 4, 5 to 6\nuk 2 1/2 + 1/2 | up: 3, 3 1/2, 4, 4 1/2, 5")
        self.assertEqual(repr(book), "Lands(2)")

    def test_led_to_none(self):
        book = Lands()
        book.tell("low", Ladder((ONE, TWO), "up", None, TWO))
        book.tell("high", Ladder((Measure(9),), "down"))
        book.tell("bare", Ladder((ONE, TWO), "up", Measure(5), Measure(6)))
        for name, other in [("low", "high"), ("high", "low"), ("low", "bare"), ("bare", "low"), ("bare", "bare")]:
            self.assertEqual(book.lead(name, NOUGHT, other), ())
        self.assertEqual(book.lead("low", NOUGHT, "low"), (NOUGHT,))

    def test_a_land_that_does_not_stand_ahead_of_all_else(self):
        book = Lands()
        book.tell("uk", HALVES)
        things = anything()
        for at, name in enumerate(no_names() + ["u", "ukk", "eu", "UK"]):
            thing = things[at % len(things)]
            for deed in [lambda: book.ladder(name), lambda: book.label(name, 0), lambda: book.label(name, 99),
                         lambda: book.label(name, thing), lambda: book.called(name, ONE), lambda: book.called(name, thing),
                         lambda: book.lead(name, ONE, "uk"), lambda: book.lead("uk", ONE, name), lambda: book.lead(name, ONE, thing),
                         lambda: book.lead(name, thing, "uk"), lambda: book.lead("uk", thing, name),
                         lambda: book.lead("uk", Measure(99), name), lambda: book.ladder(name=name)]:
                self.refused(NoLand, deed, name=name)
        # Of two lands the first one asked for.
        self.refused(NoLand, lambda: book.lead("eu", Touchy(), "us"), name="eu")
        self.refused(NoLand, lambda: book.lead("us", Touchy(), "eu"), name="us")
        self.refused(NoLand, lambda: book.lead("uk", Touchy(), "eu"), name="eu")
        book.drop("uk")
        self.refused(NoLand, lambda: book.ladder("uk"))
        self.refused(NoLand, lambda: book.lead("uk", ONE, "uk"), name="uk")
        book.back()
        self.assertEqual(book.ladder("uk"), HALVES)

    def test_no_such_size(self):
        book = Lands()
        book.tell("uk", HALVES)
        for thing in no_whole_numbers() + strangers() + [-1, 5, 6, -5, 24, 10 ** 30, 10 ** 5000, HALVES, a_grid(), book]:
            self.refused(NoSize, lambda: book.label("uk", thing), number=thing)
            self.refused(NoSize, lambda: book.label(number=thing, name="uk"), number=thing)
        self.assertEqual([book.label("uk", number) for number in range(5)], [Measure(number) for number in range(5)])

    def test_a_size_without_measures_has_its_label(self):
        book = Lands()
        book.tell("bare", Ladder((ONE, TWO), "up", Measure(5), Measure(6)), ONE, HALF)
        self.assertEqual((book.label("bare", 1), book.called("bare", Measure(3, 2))), (Measure(3, 2), 1))

    def test_great_and_fine_labels(self):
        book, great, fine = Lands(), Measure(10 ** 300), Measure(1, 10 ** 300)
        book.tell("uk", even(ONE, ONE, 24), great, fine)
        self.assertEqual(book.label("uk", 23), great.plus(fine.times(Measure(23))))
        self.assertEqual(book.called("uk", great.plus(fine.times(Measure(23)))), 23)
        self.assertIsNone(book.called("uk", great.plus(fine.times(Measure(24)))))
        self.assertIsNone(book.called("uk", great.minus(fine)))
        self.assertEqual(book.lead("uk", great, "uk"), (great,))

    def test_alike(self):
        base = {"uk": (plain_of(HALVES), Fraction(1), Fraction(1)), "eu": (plain_of(WHOLES), Fraction(0), Fraction(1))}
        one = book_of(base)
        same = [book_of(base), book_of({name: base[name] for name in ["eu", "uk"]})]
        dropped = book_of({**base, "us": base["uk"]})
        dropped.drop("us")
        same.append(dropped)
        for other in same:
            self.assertIs(one == other, True)
            self.assertIs(one != other, False)
            self.assertIs(other == one, True)
        plain = plain_of(HALVES)
        for land in [(plain_of(WHOLES), Fraction(1), Fraction(1)), (plain, Fraction(2), Fraction(1)),
                     (plain, Fraction(1), Fraction(1, 2)), ((plain[0], "near", None, None), Fraction(1), Fraction(1)),
                     ((plain[0], "up", Fraction(1), None), Fraction(1), Fraction(1)),
                     ((plain[0], "up", None, Fraction(9)), Fraction(1), Fraction(1)),
                     ((plain[0][:-1], "up", None, None), Fraction(1), Fraction(1))]:
            other = book_of({**base, "uk": land})
            self.assertIs(one == other, False)
            self.assertIs(one != other, True)
        for lands in [{}, {"uk": base["uk"]}, {"eu": base["eu"]}, {**base, "us": base["uk"]},
                      {"us": base["uk"], "eu": base["eu"]}, {"uk": base["eu"], "eu": base["uk"]}]:
            self.assertIs(one == book_of(lands), False)
            self.assertIs(one != book_of(lands), True)
        self.assertIs(Lands() == Lands(), True)

    def test_beside_things_of_other_kinds(self):
        for book in [Lands(), book_of({"uk": (plain_of(HALVES), Fraction(0), Fraction(1))})]:
            for thing in other_things() + [None, True, False, 0, 1, ONE, Touchy(), str(book), repr(book), {}, Lands]:
                if type(thing) is Lands:
                    continue
                self.assertIs(book == thing, False)
                self.assertIs(book != thing, True)
            # Python asks the left one first.
            self.assertIs(book == LikeAll(), False)

    def test_asked_again_the_same_is_told_and_nothing_changes(self):
        lands = drawn_lands(99, 4)
        book = book_of(lands)
        for unused in range(2):
            self.answers(book, lands)
            self.leads(book, lands)
        ladder, first, step = ladder_of(plain_of(HALVES)), Measure(1), Measure(2)
        book = Lands()
        book.tell("uk", ladder, first, step)
        book.lead("uk", first, "uk")
        self.assertEqual((ladder, first, step), (HALVES, Measure(1), Measure(2)))


if __name__ == "__main__":
    unittest.main()
