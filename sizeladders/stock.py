"""Stock: which sizes fit a foot, and as few sizes as can be that fit told feet."""

from sizeladders.measures import measure_or


def fits(ladder, foot, slack, tight=None):
    """The rising tuple of the sizes whose mark is from the foot less tight to the foot and slack."""
    least = foot.minus(measure_or(tight, 0))
    most = foot.plus(slack)
    return tuple([number for number, mark in enumerate(ladder.marks)
                  if least.is_below(mark, True) and mark.is_below(most, True)])


def fitting_of(ladder, feet, slack, tight):
    """For each foot, the tuple of the sizes that fit it."""
    return [fits(ladder, foot, slack, tight) for foot in feet]


def first_bare(fitting):
    """The number of the first foot that no size fits, or None."""
    for number, sizes in enumerate(fitting):
        if len(sizes) == 0:
            return number
    return None


def fewest_of(fitting):
    """(sizes, apart) of feet that each have a size that fits."""
    sizes = []
    apart = []
    # The sizes of a foot are a run. By rising last sizes, a foot that the newest size does not fit begins behind that
    # one: it has nothing in common with any foot for whose sake a size was taken.
    for last, number in sorted([(run[-1], number) for number, run in enumerate(fitting)]):
        if len(sizes) == 0 or sizes[-1] < fitting[number][0]:
            sizes.append(last)
            apart.append(number)
    return tuple(sizes), tuple(sorted(apart))


def stock_for(ladder, feet, slack, tight=None):
    """("never", the first foot that no size fits), or ("stock", sizes, apart): as few as can be, and feet apart."""
    fitting = fitting_of(ladder, feet, slack, tight)
    bare = first_bare(fitting)
    if bare is not None:
        return "never", bare
    sizes, apart = fewest_of(fitting)
    return "stock", sizes, apart
