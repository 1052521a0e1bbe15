"""Points 2, 3 (d) and 12: the looker at where two ladders part."""

import itertools
import unittest
from fractions import Fraction

from sizeladders.ladders import Ladder, even
from sizeladders.measures import Measure
from sizeladders.parting import parting
from sizeladders.partlooks import shows_parting
from tests.partwords import MANY, meant_of, spans
from tests.things import LikeAll, LooksLikeMeasure, Touchy, anything, fraction_of, measure_of, otherwise
from tests.words import TINY, is_number, ladder_of, marks_of, plain_of

THREE, FOUR, FIVE = Measure(3), Measure(4), Measure(5)
SHIFTS = [0, 1, -1, -2]


def is_word(thing, word):
    return type(thing) is str and thing == word


def is_size(thing, meant):
    return thing is None if meant is None else is_number(thing) and thing == meant


def is_right(meant, thing):
    """Whether thing is what is meant, part by part of the same kind."""
    if type(thing) is not tuple or len(thing) != len(meant) or not is_word(thing[0], meant[0]):
        return False
    if len(meant) == 1:
        return True
    word, measure, where, here, there = thing
    return (type(measure) is Measure and fraction_of(measure) == meant[1] and is_word(where, meant[2])
            and is_size(here, meant[3]) and is_size(there, meant[4]))


def some_partings():
    """(one, other, low, high, shift) of all kinds of answers, None on either side among them."""
    near, up, down = [(marks_of(3, 4, 5), rule, None, None) for rule in ["near", "up", "down"]]
    cut = (marks_of(3, 4, 5), "up", None, Fraction(9, 2))
    more = (marks_of(2, 3, 4, 5, 6), "up", None, None)
    return [(up, up, 0, 9, 0), (up, down, 0, 9, 0), (down, up, 0, 9, 0), (up, down, 3, 9, 0), (down, up, 3, 9, 0),
            (up, cut, 0, 9, 0), (cut, up, 0, 9, 0), (up, near, 3, 9, 0), (near, up, 3, 9, 0), (up, up, 0, 9, 1),
            (up, up, 0, 9, -1), (up, more, 3, 9, 1), (up, more, 0, 9, 1), (more, up, 3, 9, -1), (more, up, 0, 9, -1),
            (up, more, 3, 5, 1), (more, up, 3, 5, -1), (down, up, 4, 4, 0), (down, up, "7/2", "7/2", 0), (up, down, 7, 9, 0)]


def made(one, other, low, high, shift):
    return ladder_of(one), ladder_of(other), measure_of(low), measure_of(high), shift


def meant_by(one, other, low, high, shift):
    return meant_of(one, other, Fraction(low), Fraction(high), shift)


class LookingAtWhereLaddersPart(unittest.TestCase):
    def test_what_parting_tells(self):
        seen = set()
        for at, (one, other) in enumerate(itertools.product(MANY, MANY)):
            here, there = ladder_of(one), ladder_of(other)
            for low, high in spans()[at % 9::9]:
                low, high, shift = measure_of(low), measure_of(high), SHIFTS[at % 4]
                told = parting(here, there, low, high, shift)
                self.assertIs(shows_parting(here, there, low, high, shift, told), True)
                self.assertIs(shows_parting(thing=told, shift=shift, high=high, low=low, other=there, one=here), True)
                seen.add((told[0], told[2:3], told[3:4] == (None,), told[4:5] == (None,)))
            self.assertEqual((plain_of(here), plain_of(there)), (one, other))
        self.assertEqual(len(seen), 7)

    def test_what_is_told_of_others(self):
        lines = some_partings()
        for line, other in itertools.product(lines, lines):
            told = parting(*made(*other))
            self.assertIs(shows_parting(*made(*line), told), is_right(meant_by(*line), told), (line, other))

    def test_with_one_thing_otherwise(self):
        refused = 0
        for line in some_partings():
            told = parting(*made(*line))
            self.assertTrue(is_right(meant_by(*line), told))
            for thing in otherwise(told):
                meant = is_right(meant_by(*line), thing)
                self.assertIs(shows_parting(*made(*line), thing), meant, (line, thing))
                refused += not meant
        self.assertGreater(refused, 1000)

    def test_told_ones(self):
        ups, downs = even(THREE, Measure(1), 3), even(THREE, Measure(1), 3, "down")
        asked = (ups, downs, THREE, Measure(9), 0)
        self.assertIs(shows_parting(*asked, ("part", THREE, "behind", 1, 0)), True)
        tiny = measure_of(TINY)
        for thing in [("part", THREE, "at", 1, 0), ("part", THREE, "at", 0, 0), ("part", FOUR, "behind", 2, 1),
                      ("part", FOUR, "behind", 1, 0), ("part", THREE.plus(tiny), "behind", 1, 0),
                      ("part", THREE.minus(tiny), "behind", 1, 0), ("part", THREE.plus(tiny), "at", 1, 0),
                      ("part", Measure(7, 2), "at", 1, 0), ("part", THREE, "behind", 2, 0), ("part", THREE, "behind", 1, 1),
                      ("part", THREE, "behind", 0, 1), ("part", THREE, "behind", 1, None), ("part", THREE, "behind", None, 0),
                      ("part", THREE, "behind", True, 0), ("part", THREE, "behind", 1, False), ("alike",), ("part",),
                      ("part", THREE, "behind", 1), ("part", THREE, "behind", 1, 0, 0), ["part", THREE, "behind", 1, 0],
                      ("part", 3, "behind", 1, 0), ("part", LooksLikeMeasure(3, 1), "behind", 1, 0),
                      ("Part", THREE, "behind", 1, 0), ("part", THREE, "Behind", 1, 0), ("alike", THREE, "behind", 1, 0)]:
            self.assertIs(shows_parting(*asked, thing), False, thing)
        self.assertIs(shows_parting(ups, ups, THREE, FIVE, 0, ("alike",)), True)
        for thing in [(), ("alike", ()), ("alike", None), ["alike"], "alike", ("part",), ("Alike",), (b"alike",), None, True,
                      ("part", THREE, "at", 0, 0), ("part", THREE, "at", None, None), ("part", FIVE, "behind", None, None)]:
            self.assertIs(shows_parting(ups, ups, THREE, FIVE, 0, thing), False, thing)

    def test_a_place_out_of_the_span(self):
        # Below 3 they part, and behind 4, but the span has none of these measures.
        one = Ladder((THREE, FOUR, FIVE), "up")
        other = Ladder((THREE, FOUR, Measure(6)), "up", THREE)
        self.assertIs(shows_parting(one, other, THREE, FOUR, 0, ("alike",)), True)
        for thing in [("part", Measure(2), "at", 0, None), ("part", FIVE, "behind", None, 2), ("part", FOUR, "behind", 2, 2)]:
            self.assertIs(shows_parting(one, other, THREE, FOUR, 0, thing), False)
        self.assertIs(shows_parting(one, other, THREE, Measure(6), 0, ("part", FIVE, "behind", None, 2)), True)
        self.assertIs(shows_parting(one, other, THREE, Measure(6), 0, ("part", Measure(2), "at", 0, None)), False)
        self.assertIs(shows_parting(one, other, Measure(2), Measure(6), 0, ("part", Measure(2), "at", 0, None)), True)
        self.assertIs(shows_parting(one, other, Measure(2), Measure(6), 0, ("part", FIVE, "behind", None, 2)), False)
        self.assertIs(shows_parting(one, other, Measure(2), Measure(6), 0, ("part", Measure(1), "at", 0, None)), False)

    def test_the_sizes_just_behind_and_none_from_further_on(self):
        one, other = Ladder((THREE, FOUR, FIVE)), Ladder((THREE,), "near")
        asked = (one, other, Measure(0), Measure(9), 0)
        self.assertIs(shows_parting(*asked, ("part", THREE, "behind", 1, 0)), True)
        self.assertIs(shows_parting(*asked, ("part", THREE, "behind", 2, 0)), False)
        self.assertIs(shows_parting(*asked, ("part", THREE, "behind", None, 0)), False)

    def test_of_anything(self):
        for line in some_partings()[::3]:
            asked, meant = made(*line), meant_by(*line)
            told = parting(*asked)
            for thing in anything():
                wholes = [thing, (thing,), [thing], (thing,) * 5, told + (thing,), (told,), (thing, told)]
                wholes += [told[:at] + (thing,) + told[at + 1:] for at in range(len(told))]
                wholes += [("part", thing, thing, thing, thing), ("alike", thing)]
                for whole in wholes:
                    self.assertIs(shows_parting(*asked, whole), is_right(meant, whole), whole)

    def test_asked_again_the_same_is_told_and_nothing_changes(self):
        asked = (even(THREE, Measure(1), 3), even(THREE, Measure(1), 3, "down"), THREE, Measure(9), 0)
        held = ["part", THREE, "behind", 1, 0]
        for unused in range(3):
            self.assertIs(shows_parting(*asked, held), False)
            self.assertIs(shows_parting(*asked, tuple(held)), True)
            self.assertIs(shows_parting(*asked, (held, [LikeAll(), Touchy()])), False)
        self.assertEqual(held, ["part", THREE, "behind", 1, 0])
        self.assertEqual(plain_of(asked[1]), (marks_of(3, 4, 5), "down", None, None))


if __name__ == "__main__":
    unittest.main()
