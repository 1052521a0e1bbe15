"""Points 2, 3 (h) and 18: ladders and books read from their texts."""

import itertools
import random
import unittest
from fractions import Fraction

from sizeladders.errors import NothingBack, NoText
from sizeladders.ladders import Ladder, even
from sizeladders.lands import Lands
from sizeladders.measures import Measure
from sizeladders.reading import read_ladder, read_lands
from tests.bookwords import LABELS, NAMES, PLAINS, book_of, book_text, drawn_lands, ladder_text
from tests.textwords import bent, book_in, ladder_in
from tests.things import measure_of, no_texts, refusal_of, strangers
from tests.words import SIDE_BY_SIDE, ladder_of, marks_of, plain_of

LETTERS = ["\n", " ", "  ", "0", "1", "-", "/", ",", ", ", "|", "+", ":", "a", "Z", "\t", "\r", ".", "\u00e9", "\u0663", "\u00b2"]
MOST = "999999999999"
ROWS = "a 0 + 1 | up: 1, 2\nb 1/2 + 3 | near: 1 from 0 to 9\nc -7 + 1/3 | down: -1, 1/2 to 5"


class Reading(unittest.TestCase):
    """What the tests of reading share."""

    def no_text(self, deed, row, why, told=None):
        error = refusal_of(deed)
        self.assertIs(type(error), NoText, told)
        self.assertEqual((type(error.row), error.row, error.why), (int, row, why), told)

    def ladder_is_read(self, text):
        """The ladder of a text is read, or refused, as the patterns say."""
        meant = ladder_in(text)
        if type(meant) is str:
            self.no_text(lambda: read_ladder(text), 0, meant, text)
        else:
            made = read_ladder(text)
            self.assertIs(type(made), Ladder)
            self.assertEqual((plain_of(made), str(made)), (meant, text))
        return meant if type(meant) is str else "read"

    def book_is_read(self, text):
        meant = book_in(text)
        if type(meant) is tuple:
            self.no_text(lambda: read_lands(text), *meant, text)
        else:
            made = read_lands(text)
            self.assertIs(type(made), Lands)
            self.assertTrue(made == book_of(meant))
            self.assertEqual(str(made), text)
        return meant if type(meant) is tuple else "read"


class ReadingLadders(Reading):
    def test_what_is_written_is_read_as_it_was(self):
        for plain in SIDE_BY_SIDE + PLAINS:
            made = ladder_of(plain)
            self.assertEqual(str(made), ladder_text(plain))
            self.assertEqual(read_ladder(str(made)), made)
            self.assertEqual(read_ladder(text=str(made)), made)

    def test_numbers_of_twelve_figures(self):
        numbers = ["0", "1", MOST, f"-{MOST}", f"1/{MOST}", f"-1/{MOST}", f"{MOST} 1/{MOST}", f"-{MOST} 999999999998/{MOST}"]
        for one, other in itertools.combinations(sorted(numbers, key=lambda text: self.worth(text)), 2):
            for text in [f"up: {one}, {other}", f"down: {one} from {one} to {other}", f"near: {other} from {one}", f"up: {one} to {other}"]:
                self.assertEqual(self.ladder_is_read(text), "read")
        for wrong in [f"1{MOST}", f"-1{MOST}", f"1/1{MOST}", f"1{MOST} 1/2", f"1 1/1{MOST}", "1000000000000", "1/1000000000000"]:
            for text in [f"up: {wrong}", f"up: -99, {wrong}", f"up: 1 from {wrong}", f"up: 1 to {wrong}", f"up: 1 from 0 to {wrong}"]:
                self.assertEqual(self.ladder_is_read(text), "form")

    def worth(self, text):
        return ladder_in(f"up: {text}")[0][0]

    def test_bent_at_any_place(self):
        seen = {}
        for text in ["up: 3, 3 1/2, 4", "down: -1, 1/2 from -2 to 5", "near: 3 to 5", "near: 3 from 2", "up: -7 1/2, -7, 10"]:
            for other in bent(text, LETTERS + [" from ", " to ", "up", ": "]):
                found = self.ladder_is_read(other)
                seen[found] = seen.get(found, 0) + 1
        self.assertEqual(set(seen), {"form", "slip", "span", "read"})

    def test_otherwise_written(self):
        for text in ["", " ", "none", "up", "up:", "up: ", "up:3", "up : 3", " up: 3", "up: 3 ", "up:  3", "Up: 3", "UP: 3", "upp: 3",
                     "u: 3", ": 3", "3", "up: 3,4", "up: 3 ,4", "up: 3,  4", "up: 3, ", "up: , 3", "up: ,", "up: 3;4", "up: 3, 4,",
                     "up: 3 4", "up: 3.5", "up: 7/2", "up: 3 2/4", "up: 0 1/2", "up: 03", "up: +3", "up: -0", "up: - 3", "up: 3/1",
                     "up: 1/0", "up: 3 from", "up: 3 from ", "up: 3 from  2", "up: 3  from 2", "up: 3 From 2", "up: 3 to 5 from 2",
                     "up: 3 from 2 from 2", "up: 3 to 5 to 5", "up: 3 to", "up: 3 to ", "up: 3 fromm 2", "up: from 2", "up:  from 2",
                     "up: to 5", "from 2", "up: 3 from None", "up: 3 from 2, to 5", "up: 3 from 2 to 5 ", "up: 3\n", "\nup: 3",
                     "up: 3\nup: 3", "up:\n3", "up: 3\r", "up: \u0663", "up: \u00b2", "up: 3, a", "up: None", "near: 3, 4 to 5, 6",
                     "near: 3 from 2, 3", "up: up: 3", "a 0 + 1 | up: 3", "up: 3 | up: 3", "up: 1 1/2 1/2", "up: 1 1", "up: 3, 3 4"]:
            self.assertEqual(self.ladder_is_read(text), "form", text)

    def test_how_many_marks(self):
        for many in [1, 2, 23, 24, 25, 26, 100]:
            rising = ", ".join(str(number) for number in range(many))
            self.assertEqual(self.ladder_is_read(f"up: {rising}"), "read" if many < 25 else "form")
            self.assertEqual(self.ladder_is_read(f"near: {rising} from 5 to 4"), "span" if many < 25 else "form")
            level = ", ".join(["7"] * many)
            self.assertEqual(self.ladder_is_read(f"down: {level}"), "read" if many == 1 else "slip" if many < 25 else "form")

    def test_which_why_comes_first(self):
        for text, why in [("up: 3, 2", "slip"), ("up: 3, 3", "slip"), ("up: 1, 2, 3, 2 1/2", "slip"), ("up: 3, 2 from 5 to 4", "slip"),
                          ("up: 3 from 5 to 4", "span"), ("up: 3 from 5 to 4 1/2", "span"), ("up: 3 from 5 to -5", "span"),
                          ("up: 3 from 5 to 5", "read"), ("up: 3 from 1/3 to 1/2", "read"), ("up: 3 from 1/2 to 1/3", "span"),
                          ("up: 3, 2 from 5 to 04", "form"), ("up: 3, 2, x", "form"), ("upp: 3, 2 from 5 to 4", "form"),
                          ("up: 3 from 5 to 4 ", "form"), ("up: -1, -2", "slip"), ("up: -2, -1", "read"), ("up: -1/2, -1/3", "read"),
                          ("up: 7 1/2, 7", "slip"), ("up: -7 1/2, -7", "read"), ("up: -7, -7 1/2", "slip")]:
            self.assertEqual(self.ladder_is_read(text), why, text)

    def test_drawn_ones(self):
        draw = random.Random(18)
        seen = {}
        for unused in range(3000):
            marks = [str(measure_of(Fraction(draw.randint(-9, 30), draw.choice([1, 1, 2, 3]))))
                     for each in range(draw.choice([1, 1, 2, 2, 3]))]
            text = f"{draw.choice(['up', 'down', 'near'])}: {', '.join(marks)}"
            for word in ["from", "to"]:
                if draw.random() < 0.6:
                    text += f" {word} {measure_of(Fraction(draw.randint(-9, 30), 2))}"
            found = self.ladder_is_read(text)
            seen[found] = seen.get(found, 0) + 1
        self.assertGreater(min(seen[why] for why in ["slip", "span", "read"]), 200)

    def test_long_numbers(self):
        for many in [13, 100, 4300, 4301, 20000]:
            for number in ["1" * many, "-" + "1" * many, "1/" + "1" * many, "1" * many + "/2", "1 1/" + "3" * many, "0" * many]:
                for text in [f"up: {number}", f"up: 1, {number}", f"up: 1 from {number}", f"up: 1 to {number}", number]:
                    self.no_text(lambda: read_ladder(text), 0, "form")

    def test_of_anything(self):
        for thing in no_texts() + strangers() + [b"up: 3", ["up: 3"], ("up: 3",), even(Measure(1), Measure(1), 2)]:
            self.no_text(lambda: read_ladder(thing), 0, "form")
            self.no_text(lambda: read_ladder(text=thing), 0, "form")

    def test_asked_again_the_same_is_told(self):
        for unused in range(3):
            self.assertEqual(self.ladder_is_read("near: 3, 4 from 2"), "read")
            self.assertEqual(self.ladder_is_read("near: 4, 3 from 2"), "slip")


class ReadingBooks(Reading):
    def test_what_is_written_is_read_as_it_was(self):
        for seed in range(60):
            lands = drawn_lands(seed, seed % 9)
            book = book_of(lands)
            made = read_lands(str(book))
            self.assertIs(type(made), Lands)
            self.assertTrue(made == book and read_lands(text=book_text(lands)) == book)
            self.assertEqual(str(made), book_text(lands))

    def test_read_books_are_taken_back_row_by_row(self):
        for seed in range(30):
            lands = drawn_lands(seed, seed % 9)
            made = read_lands(book_text(lands))
            while lands:
                del lands[max(lands)]
                self.assertIsNone(made.back())
                self.assertEqual(str(made), book_text(lands))
                self.assertTrue(made == book_of(lands))
            self.assertIs(type(refusal_of(made.back)), NothingBack)

    def test_a_book_that_was_told_dropped_and_taken_back(self):
        book = book_of(drawn_lands(5, 6))
        names = book.names()
        book.drop(names[0])
        book.drop(names[3])
        book.back()
        made = read_lands(str(book))
        self.assertTrue(made == book)
        self.assertEqual(made.names(), names[1:])

    def test_two_books_of_one_text(self):
        one, other = read_lands(ROWS), read_lands(ROWS)
        one.drop("a")
        self.assertEqual((len(one), len(other)), (2, 3))

    def test_none_and_empty(self):
        self.assertTrue(read_lands("none") == Lands())
        self.assertEqual(str(read_lands("none")), "none")
        self.assertIs(type(refusal_of(read_lands("none").back)), NothingBack)
        for text, row in [("", 0), ("\n", 0), ("none\n", 0), ("none\n" + ROWS, 0), ("none\nnone", 0), ("\nnone", 0), (" none", 0),
                          ("none ", 0), ("None", 0), (ROWS + "\nnone", 3), (ROWS + "\n", 3), ("\n" + ROWS, 0), (ROWS + "\n\n", 3),
                          (ROWS.replace("\n", "\n\n"), 1), (ROWS.replace("\n", "\r\n"), 0), (ROWS + "\r", 2),
                          (ROWS.replace("\n", "\u2028"), 0), (ROWS.replace("\n", "\x0b"), 0)]:
            self.no_text(lambda: read_lands(text), row, "form", text)
            self.assertEqual(book_in(text), (row, "form"))

    def test_lands_called_like_other_words(self):
        for name in NAMES:
            self.assertEqual(self.book_is_read(f"{name} 0 + 1 | up: 3"), "read")

    def test_bent_at_any_place(self):
        seen = {}
        for text in [ROWS, "abcdefgh 7 1/2 + 1/2 | up: 1, 2 1/2", "a 0 + 1 | up: 1\naa 0 + 1 | up: 1\nb 0 + 1 | up: 1"]:
            for other in bent(text, LETTERS + ["none", " | ", " + ", "\n\n"]):
                found = self.book_is_read(other)
                seen[found] = seen.get(found, 0) + 1
        for row in range(3):
            self.assertGreater(seen[row, "form"], 100)
        for found in [(0, "slip"), (1, "span"), (0, "step"), (1, "name"), "read"]:
            self.assertIn(found, seen)

    def test_each_why_in_each_row(self):
        rows = ROWS.split("\n")
        wrong = {"form": "{0} 0 + 1 | upp: 1", "slip": "{0} 0 + 1 | up: 2, 1", "span": "{0} 0 + 1 | up: 1 from 2 to 1",
                 "step": "{0} 0 + 0 | up: 1"}
        for at, (why, row) in itertools.product(range(3), wrong.items()):
            text = "\n".join(rows[:at] + [row.format("abc"[at])] + rows[at + 1:])
            self.assertEqual(self.book_is_read(text), (at, why))
        for name, ahead in [("a", "a"), ("a", "b"), ("aa", "ab"), ("a", "aa"), ("abcdefgh", "abcdefgi")]:
            self.assertEqual(self.book_is_read(f"{ahead} 0 + 1 | up: 1\n{name} 0 + 1 | up: 1"), (1, "name"))
            self.assertEqual(self.book_is_read(f"a 0 + 1 | up: 1\nz{ahead} 0 + 1 | up: 1\n{name} 0 + 1 | up: 1")[1],
                             "name" if len(ahead) < 8 else "form")
        for ahead, name in [("a", "aa"), ("a", "b"), ("aa", "b"), ("az", "b")]:
            self.assertEqual(self.book_is_read(f"{ahead} 0 + 1 | up: 1\n{name} 0 + 1 | up: 1"), "read")

    def test_which_why_comes_first(self):
        ahead = "m 0 + 1 | up: 1\n"
        for row, why in [("a 0 + 0 | up: 2, 1 from 2 to 1", "slip"), ("a 0 + 0 | up: 1 from 2 to 1", "span"),
                         ("a 0 + 0 | up: 1", "step"), ("a 0 + -1 | up: 1", "step"), ("a 0 + -1/2 | up: 1", "step"),
                         ("a 0 + 1 | up: 1", "name"), ("m 0 + 1 | up: 1", "name"), ("a 00 + 0 | up: 2, 1 from 2 to 1", "form"),
                         ("a 0 + 00 | up: 2, 1 from 2 to 1", "form"), ("A 0 + 0 | up: 2, 1 from 2 to 1", "form"),
                         ("a 0 + 0 | up: 2, 1 from 2 to 01", "form"), ("a 0 + 1 | up: 2, 1", "slip"), ("n 0 + 0 | up: 2, 1", "slip"),
                         ("n 0 + 0 | up: 1", "step")]:
            self.assertEqual(self.book_is_read(ahead + row), (1, why))
            # Of the first row that is wrong, whatever stands behind it.
            for behind in ["", "none", "a", "m 0 + 0 | up: 2, 1", "z 0 + 1 | up: 1 from 2 to 1"]:
                self.assertEqual(self.book_is_read(f"{ahead}{row}\n{behind}"), (1, why))

    def test_otherwise_written(self):
        for row in ["a", "a 0", "a 0 +", "a 0 + 1", "a 0 + 1 |", "a 0 + 1 | ", "0 + 1 | up: 1", " 0 + 1 | up: 1", "a + 1 | up: 1",
                    "a  + 1 | up: 1", "a 0 + | up: 1", "a 0 +  | up: 1", "a 0 1 | up: 1", "a 0 + 1 up: 1", "a 0+1 | up: 1",
                    "a 0 + 1| up: 1", "a 0 + 1 |up: 1", "a  0 + 1 | up: 1", "a 0  + 1 | up: 1", "a 0 +  1 | up: 1", " a 0 + 1 | up: 1",
                    "a 0 + 1  | up: 1", "a 0 + 1 |  up: 1", "a 0 + 1 | up: 1 ", "a 0 - 1 | up: 1", "a 0 + 1 | up: 1 | up: 1",
                    "a 0 + 1 + 1 | up: 1", "a a 0 + 1 | up: 1", "abcdefghi 0 + 1 | up: 1", "A 0 + 1 | up: 1", "a1 0 + 1 | up: 1",
                    "\u00e9 0 + 1 | up: 1", "a x + 1 | up: 1", "a 0 + x | up: 1", "a 2/4 + 1 | up: 1", "a 0 + 3/2 | up: 1",
                    "a 0 + 1 | sideways: 1", "a 0 + 1 | up: 1, ", "a\t0 + 1 | up: 1", "a 0 + 1 | none", "a: 0 + 1 | up: 1",
                    "a -0 + 1 | up: 1", "a 1 1 + 1 | up: 1", "a 1 1/2 1/2 + 1 | up: 1", "| a 0 + 1 | up: 1"]:
            self.assertEqual(self.book_is_read(row), (0, "form"), row)

    def test_numbers_of_twelve_figures(self):
        for number in [MOST, f"-{MOST}", f"1/{MOST}", f"-{MOST} 1/{MOST}", f"{MOST} 999999999998/{MOST}"]:
            self.assertEqual(self.book_is_read(f"a {number} + {number.lstrip('-')} | up: {number}"), "read")
        for wrong in [f"1{MOST}", f"-1{MOST}", f"1/1{MOST}", "1" * 4301, "-" + "1" * 4301, "1/" + "3" * 5000, "1" * 5000 + " 1/2"]:
            for text in [f"a {wrong} + 1 | up: 1", f"a 0 + {wrong} | up: 1", f"a 0 + 1 | up: {wrong}", f"a 0 + 1 | up: 1 to {wrong}",
                         f"{wrong} 0 + 1 | up: 1", wrong]:
                self.no_text(lambda: read_lands(text), 0, "form")
                self.no_text(lambda: read_lands(ROWS + "\n" + text), 3, "form")

    def test_all_labels_and_ladders(self):
        for plain, (first, step) in itertools.product(PLAINS, LABELS):
            text = book_text({"uk": (plain, first, step), "eu": (plain, -first, step)})
            self.assertEqual(self.book_is_read(text), "read")

    def test_more_rows_than_a_few(self):
        rows = [f"{one}{other} {at} + 1 | up: {at}" for at, (one, other) in enumerate(itertools.product("abcdefgh", "abcdefgh"))]
        self.assertEqual(self.book_is_read("\n".join(rows)), "read")
        self.assertEqual(self.book_is_read("\n".join(rows + rows[-1:])), (64, "name"))
        self.assertEqual(self.book_is_read("\n".join(rows[::-1])), (1, "name"))

    def test_of_anything(self):
        for thing in no_texts() + strangers() + [b"none", ["none"], ("none",), Lands()]:
            self.no_text(lambda: read_lands(thing), 0, "form")
            self.no_text(lambda: read_lands(text=thing), 0, "form")

    def test_asked_again_the_same_is_told(self):
        for unused in range(3):
            self.assertEqual(self.book_is_read(ROWS), "read")
            self.assertEqual(self.book_is_read(ROWS + "\n" + ROWS), (3, "name"))

    def test_a_ladder_in_a_book_is_as_read_alone(self):
        for plain in SIDE_BY_SIDE + [(marks_of("1/3"), "near", Fraction(-1), None)]:
            book = read_lands(f"uk 0 + 1 | {ladder_text(plain)}")
            self.assertEqual(book.ladder("uk"), read_ladder(ladder_text(plain)))


if __name__ == "__main__":
    unittest.main()
