"""The looker at rounds: whether runs and rows are those of a start."""

from sizeladders.kinds import are_wholes, is_tuple_of, is_word
from sizeladders.leading import comes_to
from sizeladders.rounds import runs_of, way_of


def are_runs(thing, runs):
    """Whether thing is the tuple of just these runs."""
    return isinstance(thing, tuple) and all([are_wholes(run) for run in thing]) and thing == runs


def are_sizes(thing, runs, last):
    """Whether thing is a tuple of a size for each run, each in its run, the last one told."""
    if not are_wholes(thing) or len(thing) != len(runs) or thing[-1] != last:
        return False
    return all([runs[at][0] <= size <= runs[at][1] for at, size in enumerate(thing)])


def are_steps(thing, way, sizes):
    """Whether thing is a tuple of Measures, each coming to the sizes on both sides of it."""
    if not is_tuple_of(thing, len(sizes) - 1):
        return False
    return all([comes_to(way[at], measure, sizes[at]) and comes_to(way[at + 1], measure, sizes[at + 1])
                for at, measure in enumerate(thing)])


def is_row(thing, way, runs, last):
    """Whether thing is a row by which one comes to the size last of the last run."""
    if not is_tuple_of(thing, 2):
        return False
    sizes, measures = thing
    return are_sizes(sizes, runs, last) and are_steps(measures, way, sizes)


def is_stop(thing, runs):
    """Whether thing tells that one stops behind these runs."""
    return is_tuple_of(thing, 2) and is_word(thing[0], "stops") and are_runs(thing[1], runs)


def is_return(thing, way, runs):
    """Whether thing tells that one comes back by these runs, with rows to both ends of the last one."""
    if not is_tuple_of(thing, 4):
        return False
    word, told, low, high = thing
    if not is_word(word, "comes") or not are_runs(told, runs):
        return False
    return is_row(low, way, runs, runs[-1][0]) and is_row(high, way, runs, runs[-1][1])


def shows_round(ladders, number, thing):
    """Whether thing is such as round_from tells."""
    way = way_of(ladders)
    runs = runs_of(way, number)
    if len(runs) < len(way):
        return is_stop(thing, runs)
    return is_return(thing, way, runs)
