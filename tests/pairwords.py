"""Pairs for feet measured by two, by the document's words over Python's own fractions.

A plain grid here is (marks of lengths, marks of breadths, grade), a plain foot (length, breadth).
"""

import functools
import itertools
from fractions import Fraction

from sizeladders.grids import Grid
from sizeladders.ladders import Ladder
from tests.things import measure_of
from tests.words import is_number, marks_of

GRIDS = [
    (marks_of(3, 4, 5), marks_of(1, 2), Fraction(0)),
    (marks_of(3, 4, 5), marks_of(1, "3/2", 2), Fraction(1, 4)),
    (marks_of(3, 4, 5), marks_of(1, 2), Fraction(-1, 3)),
    (marks_of(0, 1, 2, 3), marks_of(-2, 0, 1), Fraction(1)),
    (marks_of(4,), marks_of(4,), Fraction(7)),
]


def made_grid(lengths, breadths, grade, rules=("up", "up"), ends=(None, None)):
    long, broad = [Ladder(tuple(measure_of(mark) for mark in marks), rule, *ends)
                   for marks, rule in zip([lengths, breadths], rules)]
    return Grid(long, broad, measure_of(grade))


def made_foot(foot):
    return tuple(measure_of(part) for part in foot)


def made_feet(feet):
    return tuple(made_foot(foot) for foot in feet)


def pairs_of(lengths, breadths, grade):
    return list(itertools.product(range(len(lengths)), range(len(breadths))))


def marks_at(lengths, breadths, grade, pair):
    """Both marks of a pair."""
    return lengths[pair[0]], breadths[pair[1]] + pair[0] * grade


def broken_by(grid, pair, foot, slack):
    """The rules of the foot that the pair breaks."""
    long, broad = marks_at(*grid, pair)
    length, breadth = foot
    rules = {"short": long < length, "long": long > length + slack, "narrow": broad < breadth,
             "broad": broad > breadth + slack}
    return tuple(sorted(rule for rule in rules if rules[rule]))


@functools.cache
def fitting_pairs(grid, feet, slack):
    return [pair for pair in pairs_of(*grid) if not any(broken_by(grid, pair, foot, slack) for foot in feet)]


def is_paper(grid, feet, slack, pair, thing):
    if type(thing) is not tuple or len(thing) != 4 or not all(is_number(part) for part in thing[:3]):
        return False
    return (thing[:2] == pair and 0 <= thing[2] < len(feet) and type(thing[3]) is str
            and thing[3] in broken_by(grid, pair, feet[thing[2]], slack))


def is_right(grid, feet, slack, thing):
    """Whether thing is what is told of the feet, by the document's words."""
    if type(thing) is not tuple or len(thing) != 2 or type(thing[0]) is not str or type(thing[1]) is not tuple:
        return False
    word, told = thing
    fit = fitting_pairs(grid, feet, slack)
    if fit:
        return word == "pair" and all(is_number(part) for part in told) and told == min(fit)
    return word == "none" and len(told) == len(pairs_of(*grid)) and all(
        is_paper(grid, feet, slack, pair, paper) for pair, paper in zip(pairs_of(*grid), told))


def all_papers(grid, feet, slack, pair):
    """All right papers of a pair."""
    return [(*pair, number, rule) for number, foot in enumerate(feet) for rule in broken_by(grid, pair, foot, slack)]
