"""Points 2, 3 (h) and 19: the desk, every form of its lines and every refusal."""

import random
import unittest
from fractions import Fraction

from sizeladders.desk import Desk
from sizeladders.errors import LandTwice, NoLand, NoLine, NothingBack, NoText
from sizeladders.ladders import Ladder
from sizeladders.lands import Lands
from sizeladders.measures import Measure
from sizeladders.parting import parting
from sizeladders.reading import read_lands
from sizeladders.rounds import round_from
from tests.bookwords import (LABELS, NAMES, book_text, called_in, drawn_land, drawn_lands, label_of, labels_near, measure_text,
                             row_text)
from tests.deskwords import PlainDesk
from tests.textwords import bent, book_in
from tests.things import measure_of, no_texts, refusal_of, strangers
from tests.words import SIDE_BY_SIDE, TINY, borders_of, ladder_of, marks_of

LETTERS = ["\n", " ", "  ", "0", "1", "-", "/", ",", "|", "+", "a", "Z", "\t", " a", " 1", " 1/2", " to ", "\u00a0", "\u0663"]
ROWS = ("eu 35 + 1 | near: 22 1/2, 23, 24\nuk 2 1/2 + 1/2 | up: 22, 22 1/2, 23, 23 1/2, 24 from 21\n"
        "us 5 + 1 | down: 30, 31 to 32")
# Lands of ladders that lie near each other, and one of whose sizes have no measure.
WORLD = {name: (plain, *LABELS[at % 4]) for at, (name, plain) in enumerate(zip(NAMES, SIDE_BY_SIDE[:11]))}
WORLD["zz"] = ((marks_of(1, 2), "up", Fraction(5), Fraction(6)), Fraction(0), Fraction(1))


class Desks(unittest.TestCase):
    """What the tests of desks share."""

    def refused(self, desk, line, kind, **values):
        """The line is refused so, and nothing changes."""
        book = desk.say("book")
        error = refusal_of(lambda: desk.say(line))
        self.assertIs(type(error), kind, line)
        for name in values:
            self.assertEqual(getattr(error, name), values[name], line)
        self.assertEqual(desk.say("book"), book)

    def answers(self, desk, plain, line):
        """The desk answers a line as the plain one does."""
        kind, *rest = plain.say(line)
        if kind == "refused":
            self.refused(desk, line, rest[0], **rest[1])
            return rest[0].__name__
        told = desk.say(line)
        self.assertIs(type(told), str)
        self.assertEqual(told, rest[0], line)
        self.assertEqual(desk.say("book"), book_text(plain.lands))
        return "said"


class OpeningADesk(Desks):
    def test_of_a_book_s_text(self):
        for desk in [Desk(), Desk("none"), Desk(text="none")]:
            self.assertEqual(desk.say("book"), "none")
            self.refused(desk, "back", NothingBack)
        for seed in range(10):
            lands = drawn_lands(seed, seed % 7)
            for desk in [Desk(book_text(lands)), Desk(text=book_text(lands))]:
                self.assertEqual(desk.say(line="book"), book_text(lands))

    def test_read_books_are_taken_back_row_by_row(self):
        for seed in range(10):
            lands = drawn_lands(seed, seed % 7)
            desk = Desk(book_text(lands))
            while lands:
                del lands[max(lands)]
                self.assertEqual(desk.say("back"), "done")
                self.assertEqual(desk.say("book"), book_text(lands))
            self.refused(desk, "back", NothingBack)

    def test_refused_as_a_book_is_read(self):
        for thing in no_texts() + strangers() + [b"none", Lands(), None]:
            error = refusal_of(lambda: Desk(thing))
            self.assertEqual((type(error), error.row, error.why), (NoText, 0, "form"))
        rows = ROWS.split("\n")
        for text in ["", "none\n", "none\n" + ROWS, ROWS + "\nnone", ROWS + "\n", "None", rows[1] + "\n" + rows[0],
                     rows[0] + "\n" + rows[0], rows[0] + "\nuk 0 + 0 | up: 1", rows[0] + "\nuk 0 + 0 | up: 2, 1",
                     "eu 0 + 0 | up: 1 from 2 to 1", rows[0] + "\n" + "1" * 5000]:
            error = refusal_of(lambda: Desk(text))
            self.assertEqual((type(error), (error.row, error.why)), (NoText, book_in(text)))

    def test_several_desks_side_by_side(self):
        one, other, third = Desk(), Desk(), Desk(ROWS)
        one.say("tell uk 0 + 1 | up: 3")
        self.assertEqual((one.say("book"), other.say("book"), third.say("book")), ("uk 0 + 1 | up: 3", "none", ROWS))
        self.refused(other, "back", NothingBack)
        third.say("drop uk")
        other.say("tell uk 9 + 1 | up: 3")
        self.assertEqual((one.say("size uk 1"), other.say("size uk 1")), ("0", "9"))
        self.refused(third, "size uk 1", NoLand, name="uk")
        one.say("back")
        self.assertEqual((one.say("book"), other.say("size uk 1")), ("none", "9"))


class SayingLines(Desks):
    def test_told_ones(self):
        desk = Desk(ROWS)
        for line, told in [
                ("book", ROWS), ("size eu 23", "36"), ("size eu 23 1/2", "37"), ("size uk 22 1/4", "3"), ("size uk 20", "-"),
                ("size uk 25", "-"), ("size uk 24", "4 1/2"), ("size us 29", "-"), ("size us 33", "-"), ("size us 32", "6"),
                ("size eu -7 1/2", "35"), ("stretch uk 3", "(22, 22 1/2]"), ("stretch uk 2 1/2", "[21, 22]"), ("stretch uk 9", "-"),
                ("stretch uk 2 3/4", "-"), ("stretch eu 35", "(.., 22 3/4)"), ("stretch eu 37", "[23 1/2, ..)"),
                ("stretch us 6", "[31, 32]"), ("lead uk 3 eu", "35"), ("lead eu 36 uk", "3 1/2, 4"), ("lead uk 3 1/2 eu", "35, 36"),
                ("lead uk 9 eu", "-"), ("lead us 5 uk", "-"), ("lead eu 36 eu", "36"), ("lead us 5 eu", "37"),
                ("round eu 36 uk", "35 .. 37"), ("round eu 36 eu", "36 .. 36"), ("round us 5 uk", "stops"), ("round us 4 uk", "-"),
                ("round uk 3 1/2 eu", "2 1/2 .. 4"), ("round uk 3 1/2 eu uk eu uk", "2 1/2 .. 4 1/2"), ("round uk 3 uk uk uk uk", "3 .. 3"),
                ("part eu uk 20 to 30", "at 20"), ("part eu uk 21 to 30", "behind 22"), ("part uk eu 21 to 22", "alike"),
                ("part eu eu -5 to 99", "alike"), ("part eu uk 22 1/4 to 22 1/2", "at 22 1/4"), ("part eu uk 5 to 4", "-"),
                ("part us uk 25 to 30", "at 30"), ("part us uk 25 to 29 1/2", "alike"), ("part uk us 24 1/2 to 24 1/4", "-")]:
            self.assertEqual(desk.say(line), told, line)
            self.assertEqual(desk.say(line=line), told, line)
        self.assertEqual(desk.say("tell a -1 + 1/3 | near: -7 1/2, 0"), "done")
        self.assertEqual(desk.say("size a -7"), "-1")
        self.assertEqual(desk.say("size a 0"), "-2/3")
        self.assertEqual(desk.say("stretch a -2/3"), "[-3 3/4, ..)")
        self.assertEqual(desk.say("drop eu"), "done")
        self.assertEqual(desk.say("back"), "done")
        self.assertEqual(desk.say("back"), "done")
        self.assertEqual(desk.say("book"), ROWS)

    def test_all_sizes_stretches_and_leads(self):
        desk, plain = Desk(book_text(WORLD)), PlainDesk(WORLD)
        seen = {}
        for name, land in WORLD.items():
            borders = sorted(borders_of(land[0]))
            points = borders + [(one + other) / 2 for one, other in zip(borders, borders[1:])] + [borders[0] - 1, borders[-1] + 1]
            lines = [f"size {name} {measure_text(point)}" for point in points]
            labels = [measure_text(label) for label in labels_near(land) if label.denominator < 10 ** 12 and label < 10 ** 12]
            lines += [f"stretch {name} {label}" for label in labels]
            lines += [f"lead {name} {label} {other}" for label in labels for other in WORLD]
            for line in lines:
                self.assertEqual(self.answers(desk, plain, line), "said")
                key = (line.split()[0], desk.say(line) == "-")
                seen[key] = seen.get(key, 0) + 1
        self.assertEqual(len(seen), 6)

    def test_rounds(self):
        desk, plain, draw = Desk(book_text(WORLD)), PlainDesk(WORLD), random.Random(19)
        seen = {}
        for unused in range(700):
            home, *others = [draw.choice(list(WORLD)) for each in range(draw.randint(2, 5))]
            label = measure_text(draw.choice([label for label in labels_near(WORLD[home]) if label.denominator < 10 ** 12
                                              and label < 10 ** 12]))
            line = f"round {home} {label} {' '.join(others)}"
            self.assertEqual(self.answers(desk, plain, line), "said")
            told = desk.say(line)
            key = told if told in ("-", "stops") else "comes"
            seen[key] = seen.get(key, 0) + 1
        self.assertGreater(min(seen[key] for key in ["-", "stops", "comes"]), 40)

    def test_parts(self):
        desk, plain, draw = Desk(book_text(WORLD)), PlainDesk(WORLD), random.Random(12)
        seen = {}
        for unused in range(700):
            one, other = draw.choice(list(WORLD)), draw.choice(list(WORLD))
            low, high = [Fraction(draw.randint(-4, 40), 4) for each in range(2)]
            if draw.random() < 0.8:
                low, high = min(low, high), max(low, high)
            line = f"part {one} {other} {measure_text(low)} to {measure_text(high)}"
            self.assertEqual(self.answers(desk, plain, line), "said")
            key = desk.say(line).split()[0]
            seen[key] = seen.get(key, 0) + 1
        self.assertGreater(min(seen[key] for key in ["-", "at", "behind", "alike"]), 20)

    def test_answers_as_the_book_round_from_and_parting_do(self):
        desk, book = Desk(book_text(WORLD)), read_lands(book_text(WORLD))
        for name, other in [("a", "b"), ("b", "eu"), ("uk", "us"), ("us", "zz"), ("zz", "a"), ("japan", "japan")]:
            for number in range(len(book.ladder(name))):
                label = book.label(name, number)
                stretch = book.ladder(name).stretch(number)
                self.assertEqual(desk.say(f"stretch {name} {label}"), "-" if stretch is None else str(stretch))
                leads = ", ".join(str(each) for each in book.lead(name, label, other))
                self.assertEqual(desk.say(f"lead {name} {label} {other}"), leads or "-")
                told = round_from((book.ladder(name), book.ladder(other)), number)
                ends = "stops" if told[0] == "stops" else " .. ".join(str(book.label(name, end)) for end in told[1][-1])
                self.assertEqual(desk.say(f"round {name} {label} {other}"), ends)
            for low, high in [(Measure(-9), Measure(50)), (Measure(3), Measure(4)), (Measure(7, 2), Measure(7, 2))]:
                told = parting(book.ladder(name), book.ladder(other), low, high)
                meant = "alike" if told == ("alike",) else f"{told[2]} {told[1]}"
                self.assertEqual(desk.say(f"part {name} {other} {low} to {high}"), meant)

    def test_drawn_rows_of_lines(self):
        for seed in range(8):
            draw, desk, plain = random.Random(seed), Desk(), PlainDesk({})
            seen = {}
            for turn in range(250):
                found = self.answers(desk, plain, self.drawn_line(draw))
                seen[found] = seen.get(found, 0) + 1
            self.assertLessEqual({"said", "NoLand", "LandTwice"}, set(seen))
            while plain.past:
                self.assertEqual(self.answers(desk, plain, "back"), "said")
            self.assertEqual(self.answers(desk, plain, "back"), "NothingBack")
            self.assertEqual(desk.say("book"), "none")

    def drawn_line(self, draw):
        one, other, third = [draw.choice(NAMES[:5]) for each in range(3)]
        land = drawn_land(draw)
        label = measure_text(label_of(land, draw.randint(0, 3)))
        low, high = sorted([Fraction(draw.randint(0, 20), 2) for each in range(2)])
        return draw.choice([
            f"tell {row_text(one, land)}", f"tell {row_text(other, land)}", f"tell {row_text(third, land)}", f"drop {one}", "back",
            "book", f"size {one} {measure_text(low)}", f"stretch {one} {label}", f"lead {one} {label} {other}",
            f"round {one} {label} {other} {third}", f"part {one} {other} {measure_text(low)} to {measure_text(high)}"])

    def test_tell(self):
        desk = Desk(ROWS)
        for row, why in [("", "form"), (" ", "form"), ("none", "form"), ("a", "form"), (" a 0 + 1 | up: 1", "form"),
                         ("a 0 + 1 | up: 1 ", "form"), ("a  0 + 1 | up: 1", "form"), ("a 0 + 1 | up: 1\nb 0 + 1 | up: 1", "form"),
                         ("a 0 + 1 | up: 1\n", "form"), ("\na 0 + 1 | up: 1", "form"), ("a 0 + 0 | up: 1\nb 0 + 1 | up: 1", "form"),
                         ("a 0 + 1 | up: 2, 1\nb 0 + 1 | up: 1", "form"), ("none\na 0 + 1 | up: 1", "form"), ("\n", "form"),
                         ("a 0 + 1 | up: 1\na 0 + 1 | up: 1", "form"), ("a 0 + 1 | up: 2, 1", "slip"),
                         ("a 0 + 0 | up: 1 from 2 to 1", "span"), ("a 0 + 0 | up: 1", "step"), ("a 0 + -1 | up: 1", "step"),
                         ("eu 0 + 0 | up: 1", "step"), ("eu 0 + 1 | up: 1, 1", "slip"), ("EU 0 + 1 | up: 1", "form"),
                         ("a 0 + 1 | up: " + "1" * 4301, "form"), ("1" * 5000, "form"), ("tell a 0 + 1 | up: 1", "form")]:
            self.refused(desk, f"tell {row}", NoText, row=0, why=why)
        self.refused(desk, "tell eu 0 + 1 | up: 1", LandTwice, name="eu")
        # A name needn't be above those of the lands that stand.
        self.assertEqual(desk.say("tell a 0 + 1 | up: 1"), "done")
        self.assertEqual(desk.say("book"), "a 0 + 1 | up: 1\n" + ROWS)
        for line in ["tell", "tella 0 + 1 | up: 1", " tell a 0 + 1 | up: 1", "tell\n", "tell\ta", "Tell b 0 + 1 | up: 1"]:
            self.refused(desk, line, NoLine)

    def test_drop_and_back(self):
        desk = Desk(ROWS)
        for line in ["drop a", "drop eus", "drop e"]:
            self.refused(desk, line, NoLand, name=line[5:])
        for line in ["drop", "drop ", "drop  eu", "drop eu ", "drop eu uk", "drop EU", "drop eu\n", "drop abcdefghi", "drop 1", " drop eu",
                     "back ", " back", "back back", "back 1", "Back", "back\n", "book ", "book eu", " book", "Book", "backs"]:
            self.refused(desk, line, NoLine)
        for unused in range(3):
            self.assertEqual(desk.say("back"), "done")
        self.refused(desk, "back", NothingBack)
        self.refused(desk, "drop eu", NoLand, name="eu")

    def test_a_land_that_does_not_stand_ahead_of_all_else(self):
        desk = Desk(ROWS)
        for line, name in [("size a 3", "a"), ("stretch a 3", "a"), ("lead a 3 eu", "a"), ("lead eu 36 b", "b"), ("lead eu 99 b", "b"),
                           ("lead a 99 b", "a"), ("round a 3 b", "a"), ("round eu 36 b", "b"), ("round eu 99 b", "b"),
                           ("round eu 99 uk b c", "b"), ("round eu 99 uk us eu c", "c"), ("round a 99 uk", "a"), ("part a b 1 to 2", "a"),
                           ("part eu b 1 to 2", "b"), ("part eu b 2 to 1", "b"), ("part b a 2 to 1", "b"), ("part a eu 2 to 1", "a"),
                           ("round us 5 uk b", "b")]:
            self.refused(desk, line, NoLand, name=name)
        # But a line of no form is none, whatever lands stand.
        for line in ["size a x", "lead a 3", "lead a b", "round a 3", "round a 3 b c d e f", "part a b 1 to x", "part a b 1 2",
                     "stretch a 03", "size a", "lead a 3 B", "size abcdefghi 3"]:
            self.refused(desk, line, NoLine)

    def test_lines_of_no_form(self):
        desk = Desk(ROWS)
        for line in ["", " ", "  ", "\n", "hello", "eu", "size", "size ", "size eu", "size eu ", "size eu x", "size eu 3 ", "size eu  3",
                     "size  eu 3", " size eu 3", "size eu 3 4", "size eu 3 1/2 1/2", "size eu 7/2", "size eu 3.5", "size eu 03",
                     "size eu +3", "size eu -0", "size eu 3 eu", "size eu uk 3", "size 3 eu", "size EU 3", "Size eu 3", "size eu 3\n",
                     "size eu 1000000000000", "size eu " + "1" * 4301, "size eu 1/0", "size eu 3  1/2", "size eu - 3", "size\teu 3",
                     "stretch", "stretch eu", "stretch eu x", "stretch eu 35 36", "stretch eu  35", "stretch eu 35 ", "stretch 35 eu",
                     "lead", "lead eu", "lead eu 35", "lead eu uk", "lead 35 uk", "lead eu 35 uk ", "lead eu 35  uk", "lead eu  35 uk",
                     "lead eu 35 uk us", "lead eu 35 36 uk", "lead eu 35 UK", "lead eu x uk", "lead eu 35 1/2 1/2 uk", "lead eu 35 35",
                     "round", "round eu", "round eu 35", "round eu 35 ", "round eu uk", "round eu 35  uk", "round eu 35 uk ",
                     "round eu 35 uk  us", "round eu 35 uk eu uk eu uk", "round eu 35 uk 36", "round eu uk 35", "round eu 35 36 uk",
                     "round eu 35 uk UK", "round 35 uk", "round eu 35 uk 1/2", "round eu 35 1 1/2 uk", "round eu 35 uk abcdefghi",
                     "part", "part eu", "part eu uk", "part eu uk 1", "part eu uk 1 to", "part eu uk 1 to ", "part eu uk to 2",
                     "part eu uk  to 2", "part eu uk 1 2", "part eu uk 1 To 2", "part eu uk 1  to 2", "part eu uk 1 to  2",
                     "part eu uk 1 to 2 ", "part eu uk 1 to 2 to 3", "part eu 1 to 2", "part eu uk us 1 to 2", "part eu uk 1to 2",
                     "part eu uk 1 to 2 3", "part eu uk x to 2", "part eu uk 1 to x", "part eu uk 1 2 to 3", "part eu uk to to to",
                     "part  eu uk 1 to 2", "part eu  uk 1 to 2", "part EU uk 1 to 2", "part eu uk 1, 2", "part eu uk 1 .. 2", "sizes eu 3"]:
            self.refused(desk, line, NoLine)

    def test_lines_bent_at_any_place(self):
        seen = {}
        for line in ["size eu 23 1/2", "stretch uk 2 1/2", "lead uk -3 1/2 eu", "round uk 3 1/2 eu us", "round eu 36 uk eu uk uk", "drop eu",
                     "back", "book", "part eu uk 21 1/2 to 23", "tell a 1/2 + 1 | up: 1, 2 from 0 to 3"]:
            for other in bent(line, LETTERS):
                desk, plain = Desk(ROWS), PlainDesk(book_in(ROWS))
                found = self.answers(desk, plain, other)
                seen[found] = seen.get(found, 0) + 1
        for found in ["said", "NoLine", "NoLand", "NoText"]:
            self.assertGreater(seen[found], 100)
        self.assertEqual(set(seen), {"said", "NoLine", "NoLand", "NoText"})

    def test_words_too_many_and_too_few(self):
        desk, plain = Desk(ROWS), PlainDesk(book_in(ROWS))
        for line in ["size eu 23", "stretch uk 2 1/2", "lead uk 3 1/2 eu", "round uk 3 1/2 eu us", "part eu uk 21 1/2 to 23", "drop a"]:
            words = line.split(" ")
            for at in range(len(words) + 1):
                self.answers(desk, plain, " ".join(words[:at] + words[at + 1:]))
                self.answers(desk, plain, " ".join(words[:at][::-1] + words[at:]))
                for word in ["eu", "a", "3", "1/2", "to", "", "EU", "|", "-"]:
                    self.answers(desk, plain, " ".join(words[:at] + [word] + words[at:]))
                    self.answers(desk, plain, " ".join(words[:at] + [word] + words[at + 1:]))

    def test_lands_called_like_other_words(self):
        names = ["to", "tell", "size", "none", "book", "back", "part"]
        lands = {name: (SIDE_BY_SIDE[0], Fraction(at), Fraction(1)) for at, name in enumerate(names)}
        desk, plain = Desk(book_text(lands)), PlainDesk(lands)
        for line in ["part to to 1 to 2", "lead to 0 to", "round to 0 to to to to", "size size 3", "stretch book 5", "lead part 6 tell",
                     "round none 3 1/2 to", "part none part 0 to 9", "drop drop", "drop tell", "drop to", "back", "size to 3"]:
            self.answers(desk, plain, line)
        self.assertEqual(desk.say("part size size 1 to 2"), "alike")

    def test_of_anything(self):
        desk = Desk(ROWS)
        for thing in no_texts() + strangers() + [b"book", ["book"], ("book",), Lands(), desk, None, Ladder]:
            self.refused(desk, thing, NoLine)
            self.assertIs(type(refusal_of(lambda: desk.say(line=thing))), NoLine)

    def test_great_answers(self):
        # What is said may have more figures than what is read.
        desk = Desk("a 999999999999 + 1/999999999999 | near: 999999999997, 999999999998, 999999999999")
        self.assertEqual(desk.say("size a 999999999999"), "999999999999 2/999999999999")
        self.assertEqual(desk.say("size a 1"), "999999999999")
        desk = Desk("a 0 + 999999999999 | near: 1, 2, 3")
        self.assertEqual(desk.say("size a 3"), "1999999999998")
        self.refused(desk, "stretch a 1999999999998", NoLine)
        self.assertEqual(desk.say("lead a 999999999999 a"), "999999999999")

    def test_asked_again_the_same_is_told(self):
        desk = Desk(ROWS)
        for line in ["size eu 23", "stretch uk 3", "lead eu 36 uk", "round eu 36 uk", "part eu uk 21 to 30", "book"]:
            first = desk.say(line)
            for unused in range(3):
                self.assertEqual(desk.say(line), first)

    def test_a_book_told_dropped_and_taken_back_answers_as_one_told_what_stands(self):
        desk = Desk(ROWS)
        for line in ["drop uk", "tell uk 0 + 1 | up: 1", "tell a 0 + 1 | up: 1", "back", "back", "back", "drop us", "back"]:
            self.assertEqual(desk.say(line), "done")
        fresh = Desk(ROWS)
        for line in ["book", "size uk 22", "lead eu 36 uk", "round uk 3 eu", "part eu uk 21 to 30", "stretch us 6"]:
            self.assertEqual(desk.say(line), fresh.say(line))


class ThePlainDesk(unittest.TestCase):
    def test_the_world_has_what_the_tests_need(self):
        self.assertTrue(all(ladder_of(land[0]) for land in WORLD.values()))
        self.assertEqual(called_in(WORLD["zz"], Fraction(1)), 1)
        self.assertIsNone(called_in(WORLD["zz"], Fraction(1) + TINY))
        self.assertEqual(measure_text(Fraction(-15, 2)), str(measure_of(Fraction(-15, 2))))


if __name__ == "__main__":
    unittest.main()
