"""The looker at stock: sizes that fit all feet, with as many feet no two of which have a size in common."""

from sizeladders.kinds import are_rising, is_number, is_tuple_of, is_word
from sizeladders.stock import first_bare, fitting_of


def shares(one, other):
    """Whether these have a size in common."""
    return any([size in other for size in one])


def are_sizes(thing, ladder, fitting):
    """Whether thing is a rising tuple of sizes of which each foot has one that fits it."""
    return are_rising(thing, len(ladder)) and all([shares(run, thing) for run in fitting])


def are_apart(thing, fitting):
    """Whether thing is a rising tuple of numbers of feet, no two of which have a size in common."""
    if not are_rising(thing, len(fitting)):
        return False
    return not any([shares(fitting[one], fitting[other]) for one in thing for other in thing if one < other])


def shows_stock(ladder, feet, slack, tight, thing):
    """Whether thing is such as stock_for tells."""
    fitting = fitting_of(ladder, feet, slack, tight)
    bare = first_bare(fitting)
    if bare is not None:
        return is_tuple_of(thing, 2) and is_word(thing[0], "never") and is_number(thing[1], bare)
    if not is_tuple_of(thing, 3) or not is_word(thing[0], "stock"):
        return False
    word, sizes, apart = thing
    # Each foot of those apart needs a size of its own, so that fewer sizes than these can't do.
    return are_sizes(sizes, ladder, fitting) and are_apart(apart, fitting) and len(sizes) == len(apart)
