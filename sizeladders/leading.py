"""Which sizes of one ladder are led to which sizes of another one, shown by measures that come to both."""

from sizeladders.kinds import are_wholes, is_tuple_of
from sizeladders.ladders import has_size
from sizeladders.measures import Measure


def shared_by(here, there):
    """A Measure that is in both, each a Stretch or None, or None."""
    if here is None or there is None:
        return None
    return here.shared(there)


def common_measures(one, number, other):
    """For each size of other, a Measure that comes to it and to size number of one, or None."""
    here = one.stretch(number)
    return [shared_by(here, other.stretch(size)) for size in range(len(other))]


def led(one, number, other):
    """(first, last) of the sizes of other that size number of one meets, or None where it meets none."""
    measures = common_measures(one, number, other)
    met = [size for size, measure in enumerate(measures) if measure is not None]
    if len(met) == 0:
        return None
    return met[0], met[-1]


def led_paper(one, number, other):
    """A Measure that comes to both for each size of other that size number of one meets, in order."""
    return tuple([measure for measure in common_measures(one, number, other) if measure is not None])


def comes_to(ladder, thing, number):
    """Whether thing is a Measure that comes to size number of the ladder."""
    return isinstance(thing, Measure) and ladder.size(thing) == number


def is_paper(one, number, other, run, thing):
    """Whether thing has a Measure for each size of the run, in order, that comes to both."""
    first, last = run
    if not is_tuple_of(thing, last - first + 1):
        return False
    return all([comes_to(one, measure, number) and comes_to(other, measure, first + at)
                for at, measure in enumerate(thing)])


def shows_led(one, number, other, run, paper):
    """Whether run and paper are such as led and led_paper tell."""
    if not has_size(one, number):
        return False
    meant = led(one, number, other)
    if meant is None:
        return run is None and is_tuple_of(paper, 0)
    return are_wholes(run) and run == meant and is_paper(one, number, other, meant, paper)
