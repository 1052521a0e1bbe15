"""Rounds by the document's words, over plain ladders: what the program tells is looked at beside these."""

import functools
import itertools
from fractions import Fraction

from tests.things import measure_of
from tests.words import SIDE_BY_SIDE, comes_to, is_number, ladder_of, marks_of, met_of, points_of, size_of

ALL = (marks_of(0), "near", None, None)
LOW = (marks_of(1, 2, 3), "up", None, None)
HIGH = (marks_of(10, 11), "down", None, None)
NEVER = (marks_of(1, 2), "up", Fraction(5), Fraction(6))


def some_rounds():
    """Rounds of two to five ladders, the same one among them more than once, that come back and that stop."""
    rounds = list(itertools.product(SIDE_BY_SIDE, SIDE_BY_SIDE))
    rounds += [(one, other, third) for one, other, third in itertools.product(SIDE_BY_SIDE[::2], SIDE_BY_SIDE[1::3],
                                                                              SIDE_BY_SIDE[::3])]
    rounds += [(one, other, one, other) for one, other in itertools.product(SIDE_BY_SIDE[:7], SIDE_BY_SIDE[:7])]
    rounds += [(one, one, other, ALL, other) for one, other in itertools.product(SIDE_BY_SIDE[::3], SIDE_BY_SIDE[1::4])]
    rounds += [tuple(SIDE_BY_SIDE[:5]), tuple(SIDE_BY_SIDE[2:7]), tuple(SIDE_BY_SIDE[4::-1]), (LOW,) * 2, (LOW,) * 5]
    rounds += list(stopping_rounds())
    return rounds


def stopping_rounds():
    """Rounds by how many runs have a size, where one stops from each start."""
    return {
        (LOW, HIGH): 1, (LOW, NEVER, LOW): 1, (NEVER, LOW): 1, (NEVER, NEVER): 1, (LOW, HIGH, ALL, ALL, LOW): 1,
        (LOW, ALL, HIGH): 3, (LOW, ALL, HIGH, HIGH): 4, (LOW, ALL, ALL, ALL, HIGH): 5, (LOW, ALL, NEVER): 2,
        (LOW, ALL, HIGH, LOW): 3, (LOW, LOW, ALL, HIGH, LOW): 4, (LOW, LOW, HIGH, LOW, LOW): 2,
    }


def way_of(plains):
    return plains + plains[:1]


@functools.cache
def runs_of(plains, number):
    """The runs of a start, up to the last one that has a size."""
    way = way_of(plains)
    runs = [[number]]
    for one, other in zip(way, way[1:]):
        met = sorted(set().union(*[met_of(one, size, other) for size in runs[-1]]))
        if not met:
            break
        assert met == list(range(met[0], met[-1] + 1)), (plains, number)
        runs.append(met)
    return tuple((run[0], run[-1]) for run in runs)


def comes_back(plains, number):
    return len(runs_of(plains, number)) == len(plains) + 1


def is_row(plains, runs, thing):
    """Whether thing is a row along these runs."""
    if type(thing) is not tuple or len(thing) != 2 or not all(type(part) is tuple for part in thing):
        return False
    sizes, measures = thing
    way = way_of(plains)
    if len(sizes) != len(runs) or len(measures) != len(runs) - 1 or not all(is_number(size) for size in sizes):
        return False
    if not all(low <= size <= high for size, (low, high) in zip(sizes, runs)):
        return False
    return all(comes_to(way[at], measure, sizes[at]) and comes_to(way[at + 1], measure, sizes[at + 1])
               for at, measure in enumerate(measures))


def are_runs(thing, runs):
    if type(thing) is not tuple or not all(type(run) is tuple for run in thing):
        return False
    return all(is_number(part) for run in thing for part in run) and thing == runs


def is_right(plains, number, thing):
    """Whether thing is what is told of the start, by the document's words."""
    if type(thing) is not tuple or not thing or type(thing[0]) is not str:
        return False
    runs = runs_of(plains, number)
    if thing[0] == "stops":
        return len(thing) == 2 and not comes_back(plains, number) and are_runs(thing[1], runs)
    if thing[0] != "comes" or len(thing) != 4 or not comes_back(plains, number) or not are_runs(thing[1], runs):
        return False
    return all(is_row(plains, runs, row) and row[0][-1] == end for row, end in zip(thing[2:], runs[-1]))


def all_rows(plains, number):
    """Rows along the runs of a start by all sizes, two measures for each step where there are two."""
    way, runs = way_of(plains), runs_of(plains, number)
    for sizes in itertools.product(*[range(low, high + 1) for low, high in runs]):
        steps = [[point for point in points_of(way[at], way[at + 1]) if size_of(way[at], point) == sizes[at]
                  and size_of(way[at + 1], point) == sizes[at + 1]] for at in range(len(runs) - 1)]
        if all(steps):
            for end in [0, -1]:
                yield sizes, tuple(measure_of(step[end]) for step in steps)


def made_of(plains):
    return tuple(ladder_of(plain) for plain in plains)
