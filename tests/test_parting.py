"""Points 1 to 3 (d) and 12: where two ladders part first in a span."""

import itertools
import unittest

from sizeladders.ladders import Ladder, even
from sizeladders.measures import Measure
from sizeladders.parting import parting
from tests.partwords import MANY, meant_of, plainly, spans
from tests.things import measure_of
from tests.words import TINY, ladder_of, plain_of

THREE, FOUR, FIVE, SIX = Measure(3), Measure(4), Measure(5), Measure(6)


class WhereLaddersPart(unittest.TestCase):
    def test_beside_the_document_s_words(self):
        seen = {}
        for at, (one, other) in enumerate(itertools.product(MANY, MANY)):
            here, there = ladder_of(one), ladder_of(other)
            for low, high in spans()[at % 4::4]:
                for shift in [0, 1, -1, 2]:
                    told = parting(here, there, measure_of(low), measure_of(high), shift)
                    meant = meant_of(one, other, low, high, shift)
                    self.assertEqual(plainly(told), meant, (one, other, low, high, shift))
                    seen[meant[0], meant[2:3]] = seen.get((meant[0], meant[2:3]), 0) + 1
            self.assertEqual((plain_of(here), plain_of(there)), (one, other))
        self.assertEqual(set(seen), {("alike", ()), ("part", ("at",)), ("part", ("behind",))})
        self.assertGreater(min(seen.values()), 300)

    def told(self, one, other, low, high, *shift):
        return parting(one, other, measure_of(low), measure_of(high), *shift)

    def test_alike(self):
        for plain in MANY:
            made = ladder_of(plain)
            for low, high in [(-50, 50), (3, 3), (3, 5), (-9, -9), ("7/2", "7/2")]:
                self.assertEqual(self.told(made, made, low, high), ("alike",))
        ups, more = even(THREE, Measure(1), 3), even(THREE, Measure(1), 4)
        self.assertEqual(self.told(ups, more, -50, 5), ("alike",))
        self.assertEqual(self.told(ups, more, 7, 50), ("alike",))
        # None beside none is alike, whatever the shift.
        self.assertEqual(self.told(ups, more, 7, 50, 5), ("alike",))
        self.assertEqual(self.told(Ladder((FOUR,), "up", None, THREE), Ladder((FOUR,), "near", None, THREE), -50, 50),
                         ("alike",))

    def test_at_low_and_at_high(self):
        ups, downs = even(THREE, Measure(1), 3), even(THREE, Measure(1), 3, "down")
        self.assertEqual(self.told(ups, downs, 0, 9), ("part", Measure(0), "at", 0, None))
        self.assertEqual(self.told(downs, ups, 0, 9), ("part", Measure(0), "at", None, 0))
        self.assertEqual(self.told(ups, downs, "7/2", "7/2"), ("part", Measure(7, 2), "at", 1, 0))
        other = Ladder((THREE, FOUR, FIVE), "up", None, Measure(9, 2))
        self.assertEqual(self.told(ups, other, 3, 5), ("part", Measure(9, 2), "behind", 2, None))
        # Both turn at 4, the end of the span; then one of them alone does.
        one, two = Ladder((THREE, FOUR), "down"), Ladder((THREE, FIVE), "near")
        self.assertEqual(self.told(one, two, 3, 4), ("alike",))
        one, two = Ladder((THREE, FOUR), "down"), Ladder((THREE, SIX), "near")
        self.assertEqual(self.told(one, two, 3, 4), ("part", FOUR, "at", 1, 0))
        self.assertEqual(self.told(one, two, 3, "399/100"), ("alike",))

    def test_at_a_mark_and_behind_it(self):
        one, other = even(THREE, Measure(1), 3, "down"), Ladder((THREE, Measure(9, 2), FIVE), "down")
        self.assertEqual(self.told(one, other, 3, 9), ("part", FOUR, "at", 1, 0))
        self.assertEqual(self.told(other, one, 3, 9), ("part", FOUR, "at", 0, 1))
        one, other = even(THREE, Measure(1), 3), Ladder((THREE, Measure(9, 2), FIVE))
        self.assertEqual(self.told(one, other, -9, 9), ("part", FOUR, "behind", 2, 1))
        self.assertEqual(self.told(other, one, -9, 9), ("part", FOUR, "behind", 1, 2))
        self.assertEqual(self.told(one, other, -9, 4), ("alike",))
        self.assertEqual(self.told(one, other, 4, "17/4"), ("part", FOUR, "behind", 2, 1))
        self.assertEqual(self.told(one, other, "17/4", 9), ("part", Measure(17, 4), "at", 2, 1))
        # The last mark: behind it there is no size by up.
        self.assertEqual(self.told(one, even(THREE, Measure(1), 4), 0, 9), ("part", FIVE, "behind", None, 3))

    def test_at_a_midst_and_behind_one(self):
        near, downs = even(THREE, Measure(1), 3, "near"), even(THREE, Measure(1), 3, "down")
        self.assertEqual(self.told(near, downs, 3, 9), ("part", Measure(7, 2), "at", 1, 0))
        ups = Ladder((Measure(7, 2), Measure(9, 2), FIVE))
        self.assertEqual(self.told(near, ups, 0, 9), ("part", Measure(7, 2), "at", 1, 0))
        self.assertEqual(self.told(near, ups, "18/5", 9), ("part", Measure(9, 2), "at", 2, 1))
        self.assertEqual(self.told(near, ups, "23/5", 9), ("part", FIVE, "behind", 2, None))
        # Both turn in the midst, the one at it, the other one behind it, and have the same sizes again.
        self.assertEqual(self.told(ups, near, 0, "7/2"), ("part", Measure(7, 2), "at", 0, 1))
        self.assertEqual(self.told(ups, near, 0, "349/100"), ("alike",))

    def test_at_least_and_most_and_behind_them(self):
        marks = (THREE, FOUR, FIVE)
        for rule in ["up", "down", "near"]:
            free = Ladder(marks, rule)
            inner = Ladder(marks, rule, Measure(7, 2), Measure(9, 2))
            size = free.size(Measure(7, 2))
            self.assertEqual(self.told(free, inner, "17/5", 9), ("part", Measure(17, 5), "at", free.size(Measure(17, 5)), None))
            self.assertEqual(self.told(free, inner, "7/2", "9/2"), ("alike",))
            self.assertEqual(self.told(inner, free, "7/2", 5)[1:3], (Measure(9, 2), "behind"))
            self.assertEqual(self.told(inner, Ladder((Measure(9),)), 3, 9)[:3], ("part", THREE, "at"))
            self.assertEqual(self.told(inner, Ladder((Measure(9),), "down"), 3, 8), ("part", Measure(7, 2), "at", size, None))
            later = Ladder(marks, rule, Measure(7, 2).plus(measure_of(TINY)), Measure(9, 2))
            self.assertEqual(self.told(inner, later, 0, 9), ("part", Measure(7, 2), "at", size, None))
            sooner = Ladder(marks, rule, Measure(7, 2), Measure(9, 2).minus(measure_of(TINY)))
            told = self.told(inner, sooner, 0, 9)
            self.assertEqual(told, ("part", Measure(9, 2).minus(measure_of(TINY)), "behind", inner.size(Measure(9, 2)
                             .minus(measure_of(TINY / 2))), None))
        # A single measure has a size here, and none there.
        one, other = Ladder((FOUR,), "near", FOUR, FOUR), Ladder((FIVE,), "down", SIX)
        self.assertEqual(self.told(one, other, 0, 5), ("part", FOUR, "at", 0, None))
        self.assertEqual(self.told(other, one, 0, 5), ("part", FOUR, "at", None, 0))
        self.assertEqual(self.told(one, other, "401/100", 5), ("alike",))

    def test_shift(self):
        one, other = even(THREE, Measure(1), 4, "near"), even(Measure(1), Measure(1), 6, "near")
        low, high = Measure(3), Measure(9)
        for made in [parting(one, other, low, high, 2), parting(one, other, low, high, shift=2),
                     parting(shift=2, high=high, low=low, other=other, one=one), parting(other, one, low, high, -2),
                     parting(other, one, low, high, shift=-2)]:
            self.assertEqual(made, ("alike",))
        for made in [parting(one, other, low, high), parting(one, other, low, high, 0),
                     parting(one=one, other=other, low=low, high=high), parting(one, other, low, high, shift=0)]:
            self.assertEqual(made, ("part", THREE, "at", 0, 2))
        self.assertEqual(parting(one, other, low, high, -2), ("part", THREE, "at", 0, 2))
        self.assertEqual(parting(other, one, low, high, 2), ("part", THREE, "at", 2, 0))
        self.assertEqual(parting(one, other, Measure(2), high, 2), ("part", Measure(2), "at", 0, 1))
        self.assertEqual(parting(one, one, low, high, 1), ("part", THREE, "at", 0, 0))
        self.assertEqual(parting(one, one, low, high, 10 ** 30), ("part", THREE, "at", 0, 0))

    def test_a_shift_never_takes_none_for_a_size(self):
        one = Ladder((THREE, FOUR), "down")
        other = Ladder((Measure(9),), "down")
        for shift in [-1, 0, 1]:
            self.assertEqual(self.told(one, other, 0, 8, shift), ("part", THREE, "at", 0, None))
            self.assertEqual(self.told(other, one, 0, 8, shift), ("part", THREE, "at", None, 0))
            self.assertEqual(self.told(other, one, 0, 2, shift), ("alike",))

    def test_a_span_of_one_measure_and_of_none(self):
        ups, downs = even(THREE, Measure(1), 3), even(THREE, Measure(1), 3, "down")
        self.assertEqual(self.told(ups, downs, 3, 3), ("alike",))
        self.assertEqual(self.told(ups, downs, "7/2", "7/2"), ("part", Measure(7, 2), "at", 1, 0))
        self.assertEqual(self.told(ups, downs, 3, 3 + TINY), ("part", THREE, "behind", 1, 0))
        self.assertEqual(self.told(ups, downs, 9, 3), ("alike",))

    def test_kinds(self):
        ups, downs = even(THREE, Measure(1), 3), even(THREE, Measure(1), 3, "down")
        told = self.told(ups, downs, 3, 9)
        self.assertEqual([type(part) for part in told], [str, Measure, str, int, int])
        self.assertIs(type(told), tuple)
        self.assertIs(type(self.told(ups, ups, 3, 9)), tuple)

    def test_fine_and_great(self):
        tiny = Measure(1, 10 ** 300)
        great = Measure(10 ** 300)
        one, other = even(great, tiny, 24), even(great, tiny, 24, "near")
        self.assertEqual(parting(one, other, Measure(0), great.plus(great)), ("part", great, "behind", 1, 0))
        self.assertEqual(parting(one, other, Measure(0), great), ("alike",))
        last = Ladder(one.marks[:-1] + (one.marks[-1].plus(tiny),))
        self.assertEqual(parting(one, last, Measure(0), great.plus(great)), ("part", one.marks[-1], "behind", None, 23))

    def test_asked_again_the_same_is_told_and_nothing_changes(self):
        one, other, low, high = ladder_of(MANY[2]), ladder_of(MANY[4]), Measure(3), Measure(9)
        first = parting(one, other, low, high)
        for unused in range(3):
            self.assertEqual(parting(one, other, low, high), first)
        self.assertEqual((plain_of(one), plain_of(other), low, high), (MANY[2], MANY[4], Measure(3), Measure(9)))


if __name__ == "__main__":
    unittest.main()
