"""Stock by the document's words, over Python's own fractions: what the program tells is looked at beside these."""

import functools
import itertools
from fractions import Fraction

from sizeladders.ladders import Ladder
from tests.things import measure_of
from tests.words import is_number, marks_of

# (marks, feet, slack, tight): small ones, of which all lots of sizes are looked through.
SMALL = [
    (marks_of(1, 2, 3, 4, 5, 6), marks_of(1, 2, 3, 4, 5, 6), 0, 0),
    (marks_of(1, 2, 3, 4, 5, 6), marks_of(1, 2, 3, 4, 5, 6), 1, 0),
    (marks_of(1, 2, 3, 4, 5, 6), marks_of(1, 2, 3, 4, 5, 6), 1, 1),
    (marks_of(1, 2, 3, 4, 5, 6), marks_of(6, 1, 4, 2, 5, 3), 2, 0),
    (marks_of(1, 2, 3, 4, 5, 6), marks_of(3, 3, 3), 0, 0),
    (marks_of(1, 2, 3, 4, 5, 6), marks_of("7/2", "1/2", "11/2", "7/2", "5/2"), "1/2", "1/2"),
    (marks_of(1, 2, 3, 4, 5, 6), marks_of("7/2", "1/2", "11/2", "7/2", "5/2"), "1/2", 0),
    (marks_of(1, 2, 3, 4, 5, 6), marks_of("7/2", "3/2", "11/2", "7/2", "5/2"), 0, "1/2"),
    (marks_of(1, 2, 3, 4, 5, 6), marks_of(0, 1, 2), 9, 0),
    (marks_of(1, 2, 3, 4, 5, 6), marks_of(0, 7), 9, 9),
    (marks_of(1, "3/2", 4, "9/2", 9), marks_of(1, 4, 9, "3/2", "9/2"), "1/2", 0),
    (marks_of(1, "3/2", 4, "9/2", 9), marks_of(9, 4, 1), 5, "5/2"),
    (marks_of(1, "3/2", 4, "9/2", 9), marks_of(5, 2, 2, 7), 2, 1),
    (marks_of(-3, 0, 3), marks_of(-3, 0, 3, -2, "1/3"), 3, "1/3"),
    (marks_of(-3, 0, 3), marks_of(-4, 0, 4), 1, 1),
    (marks_of(2,), marks_of(2,), 0, 0),
    (marks_of(2,), marks_of(1, 2, 3, 2), 1, 1),
]
# Where some foot is fitted by none: the first, the last, one between, several.
NEVER = [
    (marks_of(1, 2, 3), marks_of(0, 1, 2), 0, 0, 0),
    (marks_of(1, 2, 3), marks_of(1, 2, 4), 0, 0, 2),
    (marks_of(1, 2, 3), marks_of(1, "3/2", 2), 0, 0, 1),
    (marks_of(1, 2, 3), marks_of(3, 9, 1, 9, -9), 1, 1, 1),
    (marks_of(1, 2, 3), marks_of("5/2", "7/2", "1/2"), "1/2", 0, 1),
    (marks_of(1, 2, 3), marks_of("5/2", "7/2", "1/2"), 0, "1/2", 2),
    (marks_of(2,), marks_of("3/2", 2, 3), "1/2", "1/2", 2),
    (marks_of(2,), marks_of(1,), "1/2", 5, 0),
]


@functools.cache
def fits_of(marks, foot, slack, tight):
    """The numbers of the marks that lie neither below nor above what is let."""
    return tuple(at for at, mark in enumerate(marks) if not mark < foot - Fraction(tight)
                 and not mark > foot + Fraction(slack))


def fitting_of(marks, feet, slack, tight):
    return tuple(fits_of(marks, foot, slack, tight) for foot in feet)


def is_fitted(sizes, fitting):
    return all(set(run) & set(sizes) for run in fitting)


def are_apart(apart, fitting):
    return not any(set(fitting[one]) & set(fitting[other]) for one, other in itertools.combinations(apart, 2))


@functools.cache
def fewest_of(many, fitting):
    """How few of so many sizes fit all: all lots of them are looked through, the small ones first."""
    for few in range(many + 1):
        if any(is_fitted(sizes, fitting) for sizes in itertools.combinations(range(many), few)):
            return few
    raise AssertionError("some foot is fitted by none")


def are_numbers(thing, many):
    """Whether thing is a rising tuple of so many first numbers."""
    return type(thing) is tuple and all(is_number(part) for part in thing) and thing == tuple(sorted(set(thing))) \
        and all(0 <= part < many for part in thing)


def is_right(marks, feet, slack, tight, thing):
    """Whether thing is what is told of the feet, by the document's words."""
    if type(thing) is not tuple or not thing or type(thing[0]) is not str:
        return False
    fitting = fitting_of(marks, feet, slack, tight)
    if () in fitting:
        return len(thing) == 2 and thing[0] == "never" and is_number(thing[1]) and thing[1] == fitting.index(())
    if thing[0] != "stock" or len(thing) != 3 or not are_numbers(thing[1], len(marks)):
        return False
    sizes, apart = thing[1:]
    return (are_numbers(apart, len(feet)) and len(sizes) == len(apart) == fewest_of(len(marks), fitting)
            and is_fitted(sizes, fitting) and are_apart(apart, fitting))


def made_of(marks, feet, slack, tight, *unused, rule="up", least=None, most=None):
    """What is handed in: a ladder, feet, slack and tight."""
    ladder = Ladder(tuple(measure_of(mark) for mark in marks), rule, least, most)
    return ladder, tuple(measure_of(foot) for foot in feet), measure_of(slack), measure_of(tight)


def all_stocks(marks, feet, slack, tight):
    """All right sizes beside all right feet, and with each of them the ones that come near."""
    fitting = fitting_of(marks, feet, slack, tight)
    few = fewest_of(len(marks), fitting)
    for many in [few - 1, few, few + 1]:
        for sizes in itertools.combinations(range(len(marks)), max(many, 0)):
            for apart in itertools.combinations(range(len(feet)), max(many, 0)):
                yield "stock", sizes, apart
