"""The looker at where two ladders part."""

from sizeladders.kinds import is_number, is_tuple_of, is_word
from sizeladders.measures import Measure
from sizeladders.parting import parting


def is_size(thing, meant):
    """Whether thing is just this size, or None where that is meant."""
    if meant is None:
        return thing is None
    return is_number(thing, meant)


def is_part(thing, meant):
    """Whether thing tells the place that is meant, with its sizes."""
    word, measure, where, here, there = thing
    if not is_word(word, "part") or not is_word(where, meant[2]):
        return False
    if not isinstance(measure, Measure) or measure != meant[1]:
        return False
    return is_size(here, meant[3]) and is_size(there, meant[4])


def shows_parting(one, other, low, high, shift, thing):
    """Whether thing is what parting tells."""
    # The first place where the ladders are not alike is just one, so nothing but this is right.
    meant = parting(one, other, low, high, shift)
    if not is_tuple_of(thing, len(meant)):
        return False
    if len(meant) == 1:
        return is_word(thing[0], "alike")
    return is_part(thing, meant)
