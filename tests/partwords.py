"""Where two ladders part by the document's words, over plain ladders: what the program tells is looked at beside these."""

import itertools
from fractions import Fraction

from tests.things import fraction_of
from tests.words import SIDE_BY_SIDE, TINY, borders_of, marks_of, size_of

MANY = SIDE_BY_SIDE + [
    (marks_of(3, 4, 5, 6), "up", None, Fraction(5)), (marks_of(3, 4, 5, 7), "up", None, None),
    (marks_of(3, 4, 5), "up", None, None), (marks_of(3, 4, 5, 6, 7), "down", None, None),
    (marks_of(3, 4, 5 + TINY, 6), "near", None, None), (marks_of(2, 3, 4, 5, 6), "up", Fraction(2), None),
    (marks_of(4, 5, 6), "near", Fraction(7, 2), Fraction(6)),
]


def are_alike(one, other, point, shift):
    here, there = size_of(one, point), size_of(other, point)
    return here == there if None in (here, there) else there == here + shift


def looks_of(one, other, low, high):
    """Points from low to high: those at which sizes can turn, and some between each two of them."""
    turns = sorted(point for point in borders_of(one) | borders_of(other) | {low, high} if low <= point <= high)
    between = {point for here, there in zip(turns, turns[1:])
               for point in [(here + there) / 2, (999 * here + there) / 1000, (here + 999 * there) / 1000]}
    return turns, sorted(set(turns) | between)


def meant_of(one, other, low, high, shift):
    """What is told of them, by the document's words; of the first point at which they are not alike."""
    turns, looks = looks_of(one, other, low, high)
    for look in looks:
        if not are_alike(one, other, look, shift):
            measure = max(turn for turn in turns if turn <= look)
            where = "at" if measure == look else "behind"
            return "part", measure, where, size_of(one, look), size_of(other, look)
    return ("alike",)


def plainly(told):
    """What was told, its measure as a fraction."""
    if type(told) is tuple and len(told) == 5:
        return told[:1] + (fraction_of(told[1]),) + told[2:]
    return told


def spans():
    ends = [Fraction(-20), Fraction(5, 2), Fraction(3), Fraction(13, 4), Fraction(4), Fraction(9, 2), Fraction(5),
            Fraction(6), Fraction(50)]
    return [(low, high) for low, high in itertools.product(ends, ends) if low <= high]
