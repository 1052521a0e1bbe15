"""Ladders by the document's words, over Python's own fractions: what the program tells is looked at beside these.

A plain ladder here is (marks, rule, least, most): fractions, a text, and fractions or None. What is told of one is
kept, as the same is asked of it time and again; nobody changes it.
"""

import functools
import itertools
from fractions import Fraction

from sizeladders.ladders import Ladder
from sizeladders.measures import Measure
from tests.things import fraction_of, measure_of

RULES = ["up", "down", "near"]
TINY = Fraction(1, 10 ** 30)


def marks_of(*numbers):
    return tuple(Fraction(number) for number in numbers)


def end_of(fraction):
    return None if fraction is None else measure_of(fraction)


def ladder_of(plain):
    marks, rule, least, most = plain
    return Ladder(tuple(measure_of(mark) for mark in marks), rule, end_of(least), end_of(most))


def plain_of(ladder):
    ends = [None if end is None else fraction_of(end) for end in [ladder.least, ladder.most]]
    return tuple(fraction_of(mark) for mark in ladder.marks), ladder.rule, *ends


@functools.cache
def size_of(plain, point):
    """The size to which a point comes, or None."""
    marks, rule, least, most = plain
    if least is not None and point < least or most is not None and point > most:
        return None
    if rule == "up":
        fit = [mark for mark in marks if mark >= point]
        return marks.index(min(fit)) if fit else None
    if rule == "down":
        fit = [mark for mark in marks if mark <= point]
        return marks.index(max(fit)) if fit else None
    nearest = min(abs(mark - point) for mark in marks)
    return marks.index(max(mark for mark in marks if abs(mark - point) == nearest))


@functools.cache
def borders_of(plain):
    """All points at which the size can become another one."""
    marks, rule, least, most = plain
    midsts = [(one + other) / 2 for one, other in zip(marks, marks[1:])]
    return set(marks) | set(midsts) | {end for end in [least, most] if end is not None}


@functools.cache
def points_of(*plains):
    """Points at all borders, just beside them, between them and far beyond them."""
    borders = sorted(set().union(*[borders_of(plain) for plain in plains]))
    points = set(borders) | {border + step for border in borders for step in [TINY, -TINY]}
    points |= {(one + other) / 2 for one, other in zip(borders, borders[1:])}
    return sorted(points | {borders[0] - 1, borders[-1] + 1, Fraction(-10 ** 40), Fraction(10 ** 40)})


def all_plains(marks, ends):
    """The ladders of all rules, with each two of the ends as least and most."""
    return [(marks, rule, least, most) for rule in RULES for least, most in itertools.product(ends, ends)
            if least is None or most is None or least <= most]


@functools.cache
def met_of(one, number, other):
    """The sizes of other that size number of one meets."""
    sizes = {size_of(other, point) for point in points_of(one, other) if size_of(one, point) == number}
    return sorted(sizes - {None})


def is_number(thing):
    return type(thing) is int


def comes_to(plain, thing, number):
    """Whether thing is a Measure that comes to that size."""
    return type(thing) is Measure and size_of(plain, fraction_of(thing)) == number


# Ladders beside each other: of one mark to many, of all rules, their marks alike, between and apart, with and without
# least and most, some of whose sizes have no measure at all.
SIDE_BY_SIDE = [
    (marks_of(3, 4, 5, 6), "up", None, None),
    (marks_of(3, 4, 5, 6), "down", None, None),
    (marks_of(3, 4, 5, 6), "near", None, None),
    (marks_of(3, "7/2", 4, "9/2", 5), "up", Fraction(3), Fraction(9, 2)),
    (marks_of(3, "7/2", 4, "9/2", 5), "near", Fraction(13, 4), None),
    (marks_of(3, "7/2", 4, "9/2", 5), "down", None, Fraction(4)),
    (marks_of("13/4", "15/4", "17/4"), "near", None, Fraction(4)),
    (marks_of(1, 5, 9), "near", None, None),
    (marks_of(1, 5, 9), "up", Fraction(5), Fraction(5)),
    (marks_of(1, 5, 9), "down", Fraction(9), Fraction(9)),
    (marks_of(4,), "up", None, None),
    (marks_of(4,), "down", Fraction(3), Fraction(7, 2)),
    (marks_of(4,), "near", None, None),
    (marks_of(-7, "-1/2", 0, 20), "down", None, None),
    (marks_of(20, 21, 22), "up", Fraction(20), None),
    (tuple(Fraction(2) + Fraction(at, 5) for at in range(24)), "near", None, None),
]
