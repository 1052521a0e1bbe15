"""Tables that should rise: where they slip, which single rows could be it, and whether their steps are even."""

from sizeladders.measures import Measure


def slip_of(rows):
    """The number of the first row that is not above the one ahead, or None where the rows rise."""
    for number in range(1, len(rows)):
        if not rows[number - 1].is_below(rows[number]):
            return number
    return None


def rises_without(rows, number):
    """Whether the rows but this one rise."""
    return slip_of(rows[:number] + rows[number + 1:]) is None


def singles_of(rows):
    """The rising tuple of the numbers of all rows without each of which, by itself, the others rise."""
    return tuple([number for number in range(len(rows)) if rises_without(rows, number)])


def is_step(one, other, step):
    """Whether other is above one, and by just this step."""
    return one.is_below(other) and other.minus(one) == step


def steps_of(rows):
    """("even", step) where each row is by the same step above the one ahead, else ("odd", the first row that isn't)."""
    if len(rows) < 2:
        # Nothing slips where there is no step, so that any step above 0 is as right.
        return "even", Measure(1)
    step = rows[1].minus(rows[0])
    for number in range(1, len(rows)):
        if not is_step(rows[number - 1], rows[number], step):
            return "odd", number
    return "even", step
