"""Points 2, 3 (f) and 15: rules that a pair breaks, the pair for all feet, and its looker."""

import itertools
import random
import unittest
from fractions import Fraction

from sizeladders.grids import Grid
from sizeladders.ladders import even
from sizeladders.measures import Measure
from sizeladders.pairs import broken, pair_for, shows_pair
from tests.pairwords import (GRIDS, all_papers, broken_by, fitting_pairs, is_right, made_feet, made_foot, made_grid, marks_at,
                             pairs_of)
from tests.things import LikeAll, Touchy, anything, measure_of, otherwise
from tests.words import TINY, marks_of

NOUGHT, HALF, ONE = Measure(0), Measure(1, 2), Measure(1)
SLACKS = [Fraction(0), Fraction(1, 2), Fraction(1), Fraction(3)]
RULES = ("broad", "long", "narrow", "short")


def drawn_lines(many, seed):
    """(grid, feet, slack), drawn: of one to six feet."""
    draw = random.Random(seed)
    for unused in range(many):
        grid = draw.choice(GRIDS)
        pair = draw.choice(pairs_of(*grid))
        slack = draw.choice(SLACKS)
        long, broad = marks_at(*grid, pair)
        reach = draw.choice([1, 1, 2, 6])
        feet = tuple((long - Fraction(draw.randint(0, 4), 4) * reach * slack - Fraction(draw.randint(0, 9) // 8, 4),
                      broad - Fraction(draw.randint(0, 4), 4) * reach * slack + Fraction(draw.randint(0, 9) // 8, 4))
                     for each in range(draw.randint(1, 6)))
        yield grid, feet, slack


class RulesThatAPairBreaks(unittest.TestCase):
    def test_beside_the_document_s_words(self):
        seen = set()
        for grid, slack in itertools.product(GRIDS, SLACKS):
            made = made_grid(*grid)
            for pair in pairs_of(*grid):
                long, broad = marks_at(*grid, pair)
                # At both ends of what is let, just beside them, between them and far off.
                steps = [end + step for end in [0, -slack] for step in [0, TINY, -TINY]] + [-slack / 2, 50, -50]
                for one, other in itertools.product(steps, steps):
                    foot = (long + one, broad + other)
                    told = broken(made, pair, made_foot(foot), measure_of(slack))
                    self.assertIs(type(told), tuple)
                    self.assertEqual(told, broken_by(grid, pair, foot, slack), (grid, pair, foot, slack))
                    seen.add(told)
        self.assertEqual(seen, {(), ("broad",), ("long",), ("narrow",), ("short",), ("broad", "long"), ("broad", "short"),
                                ("long", "narrow"), ("narrow", "short")})

    def test_told_ones(self):
        grid, tiny = Grid(even(Measure(3), ONE, 3), even(ONE, HALF, 3), Measure(1, 4)), measure_of(TINY)
        # The pair (1, 1) has the marks 4 and 1 3/4.
        long, broad = Measure(4), Measure(7, 4)
        for foot, slack, rules in [
                ((long, broad), NOUGHT, ()), ((long, broad), HALF, ()), ((long.plus(tiny), broad), HALF, ("short",)),
                ((long.minus(tiny), broad), NOUGHT, ("long",)), ((long.minus(HALF), broad), HALF, ()),
                ((long.minus(HALF).minus(tiny), broad), HALF, ("long",)), ((long, broad.plus(tiny)), HALF, ("narrow",)),
                ((long, broad.minus(tiny)), NOUGHT, ("broad",)), ((long, broad.minus(HALF)), HALF, ()),
                ((long, broad.minus(HALF).minus(tiny)), HALF, ("broad",)), ((Measure(9), Measure(9)), HALF, ("narrow", "short")),
                ((NOUGHT, NOUGHT), HALF, ("broad", "long")), ((Measure(9), NOUGHT), HALF, ("broad", "short")),
                ((NOUGHT, Measure(9)), HALF, ("long", "narrow")), ((NOUGHT, NOUGHT), Measure(9), ())]:
            self.assertEqual(broken(grid, (1, 1), foot, slack), rules)
            self.assertEqual(broken(slack=slack, foot=foot, pair=(1, 1), grid=grid), rules)

    def test_rule_least_and_most_change_nothing(self):
        for rules in itertools.product(["up", "down", "near"], repeat=2):
            grid = made_grid(*GRIDS[1], rules, (Measure(50), Measure(51)))
            for pair in pairs_of(*GRIDS[1]):
                for foot in [(Fraction(4), Fraction(3, 2)), (Fraction(5), Fraction(1)), (Fraction(9, 2), Fraction(2))]:
                    self.assertEqual(broken(grid, pair, made_foot(foot), HALF),
                                     broken_by(GRIDS[1], pair, foot, Fraction(1, 2)))
            self.assertEqual(pair_for(grid, ((Measure(4), Measure(5, 4)),), NOUGHT), ("pair", (1, 0)))


class ThePairForAllFeet(unittest.TestCase):
    def test_beside_the_document_s_words(self):
        seen = {}
        for grid, feet, slack in drawn_lines(900, 15):
            made = made_grid(*grid)
            told = pair_for(made, made_feet(feet), measure_of(slack))
            self.assertTrue(is_right(grid, feet, slack, told), (grid, feet, slack, told))
            self.assertIs(shows_pair(made, made_feet(feet), measure_of(slack), told), True)
            key = (told[0], len(feet), len(fitting_pairs(grid, feet, slack)) > 1)
            seen[key] = seen.get(key, 0) + 1
        for many in range(1, 7):
            self.assertGreater(seen["none", many, False], 10)
            self.assertGreater(seen["pair", many, False], 10)
        self.assertGreater(sum(seen[key] for key in seen if key[2]), 20)

    def test_told_ones(self):
        grid = Grid(even(Measure(3), ONE, 3), even(ONE, HALF, 2), Measure(1, 4))
        here, there = (Measure(4), Measure(5, 4)), (Measure(7, 2), ONE)
        self.assertEqual(pair_for(grid, (here,), NOUGHT), ("pair", (1, 0)))
        self.assertEqual(pair_for(grid, (here, there), HALF), ("pair", (1, 0)))
        self.assertEqual(pair_for(slack=HALF, feet=(here, there), grid=grid), ("pair", (1, 0)))
        # Several pairs fit: the least one as tuples rise, by length ahead of breadth.
        self.assertEqual(pair_for(grid, ((Measure(3), ONE),), Measure(9)), ("pair", (0, 0)))
        self.assertEqual(pair_for(grid, ((Measure(4), ONE),), Measure(9)), ("pair", (1, 0)))
        self.assertEqual(pair_for(grid, ((Measure(3), Measure(7, 4)),), Measure(9)), ("pair", (1, 1)))
        self.assertEqual(pair_for(grid, ((Measure(3), Measure(6, 4)),), Measure(9)), ("pair", (0, 1)))
        self.assertEqual(pair_for(grid, ((Measure(3), Measure(2)),), Measure(9)), ("pair", (2, 1)))
        word, papers = pair_for(grid, (here, there), NOUGHT)
        self.assertEqual((word, [paper[:2] for paper in papers]), ("none", [(0, 0), (0, 1), (1, 0), (1, 1), (2, 0), (2, 1)]))
        self.assertEqual(papers[2], (1, 0, 1, papers[2][3]))
        self.assertIn(papers[2][3], ("broad", "long"))

    def test_of_one_pair(self):
        grid = Grid(even(ONE, ONE, 1), even(ONE, ONE, 1))
        self.assertEqual(pair_for(grid, ((ONE, ONE),), NOUGHT), ("pair", (0, 0)))
        self.assertEqual(pair_for(grid, ((ONE, HALF),), NOUGHT), ("none", ((0, 0, 0, "broad"),)))
        self.assertEqual(pair_for(grid, ((ONE, ONE), (ONE, ONE), (Measure(2), ONE)), NOUGHT), ("none", ((0, 0, 2, "short"),)))

    def test_kinds(self):
        grid = Grid(even(ONE, ONE, 2), even(ONE, ONE, 2))
        told = pair_for(grid, ((ONE, ONE),), NOUGHT)
        self.assertEqual([type(told), type(told[0]), type(told[1])], [tuple, str, tuple])
        self.assertEqual([type(part) for part in told[1]], [int, int])
        told = pair_for(grid, ((ONE, HALF),), NOUGHT)
        self.assertEqual([type(told), type(told[0]), type(told[1])], [tuple, str, tuple])
        for paper in told[1]:
            self.assertEqual([type(paper)] + [type(part) for part in paper], [tuple, int, int, int, str])

    def test_many_pairs(self):
        grid = Grid(even(ONE, HALF, 24), even(ONE, HALF, 24), Measure(-1, 8))
        feet = tuple((grid.long_mark(pair), grid.broad_mark(pair)) for pair in [(20, 20), (21, 21), (22, 20)])
        self.assertEqual(pair_for(grid, feet[:1], NOUGHT), ("pair", (20, 20)))
        self.assertEqual(pair_for(grid, feet, NOUGHT)[0], "none")
        self.assertEqual(len(pair_for(grid, feet, NOUGHT)[1]), 576)
        # The broadest of the feet is 8 7/8: at length 22, breadth 21 has the mark 8 3/4, and 22 has 9 1/4.
        self.assertEqual(pair_for(grid, feet, Measure(2)), ("pair", (22, 22)))

    def test_somewhat_more_feet_than_told(self):
        grid = Grid(even(ONE, ONE, 2), even(ONE, ONE, 2))
        self.assertEqual(pair_for(grid, ((ONE, ONE),) * 9, NOUGHT), ("pair", (0, 0)))
        self.assertEqual(pair_for(grid, (), NOUGHT), ("pair", (0, 0)))

    def test_asked_again_the_same_is_told_and_nothing_changes(self):
        for grid, feet, slack in drawn_lines(20, 2):
            asked = (made_grid(*grid), made_feet(feet), measure_of(slack))
            first = pair_for(*asked)
            for unused in range(2):
                self.assertEqual(pair_for(*asked), first)
                self.assertEqual(broken(asked[0], (0, 0), asked[1][0], asked[2]), broken_by(grid, (0, 0), feet[0], slack))
            meant = made_grid(*grid)
            self.assertEqual((asked[0].lengths, asked[0].breadths, asked[0].grade), (meant.lengths, meant.breadths, meant.grade))
            self.assertEqual(asked[1:], (made_feet(feet), measure_of(slack)))


class LookingAtPairs(unittest.TestCase):
    def test_lesser_and_greater_pairs(self):
        seen = set()
        for grid, feet, slack in drawn_lines(200, 16):
            made = (made_grid(*grid), made_feet(feet), measure_of(slack))
            fit = fitting_pairs(grid, feet, slack)
            for pair in pairs_of(*grid) + [(-1, 0), (0, -1), (99, 0), (0, 99)]:
                meant = bool(fit) and pair == min(fit)
                self.assertIs(shows_pair(*made, ("pair", pair)), meant)
                self.assertIs(shows_pair(thing=("pair", pair), slack=made[2], feet=made[1], grid=made[0]), meant)
                seen.add((bool(fit), pair in fit, meant))
        self.assertEqual(len(seen), 4)

    def test_other_right_papers(self):
        taken = 0
        for grid, feet, slack in drawn_lines(120, 17):
            made = (made_grid(*grid), made_feet(feet), measure_of(slack))
            told = pair_for(*made)
            last = tuple((all_papers(grid, feet, slack, pair) or [(*pair, 0, "short")])[-1] for pair in pairs_of(*grid))
            for at, pair in enumerate(pairs_of(*grid)):
                for number, rule in itertools.product(range(-1, len(feet) + 1), RULES + ("Short", "", "near")):
                    thing = ("none", last[:at] + ((*pair, number, rule),) + last[at + 1:])
                    meant = is_right(grid, feet, slack, thing)
                    self.assertIs(shows_pair(*made, thing), meant, (grid, feet, slack, thing))
                    taken += meant and thing != told
        self.assertGreater(taken, 200)

    def test_with_one_thing_otherwise(self):
        taken = refused = 0
        for grid, feet, slack in drawn_lines(40, 18):
            made = (made_grid(*grid), made_feet(feet), measure_of(slack))
            told = pair_for(*made)
            for thing in otherwise(told):
                meant = is_right(grid, feet, slack, thing)
                self.assertIs(shows_pair(*made, thing), meant, (grid, feet, slack, thing))
                taken += meant
                refused += not meant
        self.assertGreater(taken, 50)
        self.assertGreater(refused, 3000)

    def test_wrong_ones(self):
        grid, feet = Grid(even(ONE, ONE, 2), even(ONE, ONE, 1)), ((ONE, ONE), (Measure(2), ONE))
        right = ((0, 0, 1, "short"), (1, 0, 0, "long"))
        self.assertIs(shows_pair(grid, feet, NOUGHT, ("none", right)), True)
        for papers in [right[:1], right[1:], right[::-1], right + right, right + right[1:], list(right), (), None,
                       ((0, 0, 1, "short"), (0, 0, 1, "short")), ((0, 0, 0, "short"), right[1]), ((0, 0, 1, "long"), right[1]),
                       ((0, 0, 1, "broad"), right[1]), (right[0], (1, 0, 1, "long")), (right[0], (True, 0, 0, "long")),
                       (right[0], (1, False, 0, "long")), (right[0], (1, 0, False, "long")), (right[0], [1, 0, 0, "long"]),
                       (right[0], (1, 0, 0)), (right[0], (1, 0, 0, "long", 0)), (right[0], (1, 0, -2, "long")),
                       (right[0], (1, 0, 2, "long")), (right[0], (1, 0, 0, ("long",))), (right[0], (1, 0, 0, "lon")),
                       (right[0], (1, 0, 0, b"long")), ((0, 0, True, "short"), right[1]), (right[0], ((1, 0), 0, "long"))]:
            self.assertIs(shows_pair(grid, feet, NOUGHT, ("none", papers)), False, papers)
        for thing in [("pair", (0, 0)), ("pair", (1, 0)), ("pair", right), ("None", right), ["none", right], ("none", right, ()),
                      ("none",), right, "none", None, ("none", None)]:
            self.assertIs(shows_pair(grid, feet, NOUGHT, thing), False, thing)
        self.assertIs(shows_pair(grid, feet, ONE, ("pair", (1, 0))), True)
        for thing in [("pair", (True, 0)), ("pair", (1, False)), ("pair", [1, 0]), ["pair", (1, 0)], ("pair", (1, 0, 0)),
                      ("pair", (1,)), ("pair", 1), ("pair", 1, 0), ("none", right), ("none", ()), ("none", right[:1]),
                      ("none", (right[0], (1, 0, 0, "short"))), ("Pair", (1, 0)), (1, 0), ("pair", (0, 0)), ("pair", None)]:
            self.assertIs(shows_pair(grid, feet, ONE, thing), False, thing)

    def test_of_anything(self):
        for slack in [Fraction(0), Fraction(1)]:
            grid, feet = (marks_of(1, 2), marks_of(1,), Fraction(0)), (marks_of(1, 1), marks_of(2, 1))
            made = (made_grid(*grid), made_feet(feet), measure_of(slack))
            word, rest = told = pair_for(*made)
            self.assertEqual(word, "pair" if slack else "none")
            for thing in anything():
                wholes = [thing, (thing,), [thing], (thing,) * 2, (thing, rest), (word, thing), told + (thing,),
                          (word, (thing,)), (word, (thing,) * 2), (word, (thing,) + rest[1:]), (word, rest[:1] + (thing,)),
                          (word, ((thing,) * 4,) * 2), ("pair", (thing, 0)), ("pair", (1, thing)), ("none", thing)]
                if word == "none":
                    wholes += [(word, (rest[0][:at] + (thing,) + rest[0][at + 1:], rest[1])) for at in range(4)]
                for whole in wholes:
                    self.assertIs(shows_pair(*made, whole), is_right(grid, feet, slack, whole), whole)

    def test_asked_again_the_same_is_told_and_nothing_changes(self):
        grid, feet = Grid(even(ONE, ONE, 2), even(ONE, ONE, 1)), ((ONE, ONE),)
        held = ["pair", [0, 0]]
        for unused in range(3):
            for thing in [held, tuple(held), ("none", held), (held, LikeAll()), (Touchy(), held)]:
                self.assertIs(shows_pair(grid, feet, NOUGHT, thing), False)
            self.assertIs(shows_pair(grid, feet, NOUGHT, ("pair", (0, 0))), True)
        self.assertEqual((held, feet), (["pair", [0, 0]], ((ONE, ONE),)))


if __name__ == "__main__":
    unittest.main()
