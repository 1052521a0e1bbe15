"""Rounds: from a size of home to a size of the next ladder that it meets, and on, and back home."""

from sizeladders.ladders import has_size
from sizeladders.leading import led, shared_by


def way_of(ladders):
    """The ladders in the order in which one comes to them, home at both ends."""
    return ladders + ladders[:1]


def run_behind(one, run, other):
    """(first, last) of the sizes of other that some size of the run of one meets, or None where none is met."""
    first, last = run
    runs = [led(one, number, other) for number in range(first, last + 1)]
    met = [each for each in runs if each is not None]
    if len(met) == 0:
        return None
    return min([low for low, high in met]), max([high for low, high in met])


def runs_of(way, number):
    """The tuple of the runs of a start, up to the last one that has a size."""
    runs = [(number, number)]
    if not has_size(way[0], number):
        # Nothing is refused here: what is no size meets none.
        return tuple(runs)
    for at in range(1, len(way)):
        run = run_behind(way[at - 1], runs[-1], way[at])
        if run is None:
            break
        runs.append(run)
    return tuple(runs)


def size_ahead(one, run, other, size):
    """A size of the run of one that meets this size of other, where there is one."""
    met = led(other, size, one)
    # Both are runs that have a size in common, so the greater one of their beginnings is in both.
    return max(met[0], run[0])


def sizes_to(way, runs, last):
    """A size for each run, each meeting the one behind it, the last one told."""
    sizes = [last]
    for at in reversed(range(1, len(way))):
        sizes.insert(0, size_ahead(way[at - 1], runs[at - 1], way[at], sizes[0]))
    return tuple(sizes)


def row_to(way, runs, last):
    """A row by which one comes to the size last of the last run."""
    sizes = sizes_to(way, runs, last)
    stretches = [ladder.stretch(size) for ladder, size in zip(way, sizes)]
    measures = [shared_by(stretches[at - 1], stretches[at]) for at in range(1, len(stretches))]
    return sizes, tuple(measures)


def round_from(ladders, number):
    """("comes", runs, low, high), low and high rows to both ends of the last run; or ("stops", runs)."""
    way = way_of(ladders)
    runs = runs_of(way, number)
    if len(runs) < len(way):
        return "stops", runs
    low, high = runs[-1]
    return "comes", runs, row_to(way, runs, low), row_to(way, runs, high)


def end_rows(ladders, number):
    """The rows from a start to both ends of its last run; none where one does not come back."""
    told = round_from(ladders, number)
    if told[0] == "stops":
        return []
    return [told[2], told[3]]


def drift_of(row):
    """How far the last size of a row lies from its first one, up or down."""
    sizes, measures = row
    return abs(sizes[-1] - sizes[0])


def most_drift(ladders):
    """(many, row): the greatest drift of all rows, with a row that has it; None where from no size one comes back."""
    # From a start one drifts no further than to an end of its last run.
    rows = [row for number in range(len(ladders[0])) for row in end_rows(ladders, number)]
    if len(rows) == 0:
        return None
    widest = max(rows, key=drift_of)
    return drift_of(widest), widest
