"""What kind of thing was handed in: looked at ahead of `==`, to which True is 1 and a stranger may be anything."""


def is_whole(thing):
    """Whether thing is a whole number; True and False are none."""
    return isinstance(thing, int) and not isinstance(thing, bool)


def is_number(thing, number):
    """Whether thing is just this whole number."""
    return is_whole(thing) and thing == number


def is_tuple_of(thing, many):
    """Whether thing is a tuple of so many things."""
    return isinstance(thing, tuple) and len(thing) == many


def are_wholes(thing):
    """Whether thing is a tuple of whole numbers."""
    return isinstance(thing, tuple) and all([is_whole(part) for part in thing])


def all_below(numbers, many):
    """Whether all of these whole numbers are from 0 to many, many not among them."""
    return all([0 <= number < many for number in numbers])


def are_rising(thing, many):
    """Whether thing is a rising tuple of whole numbers from 0 to many, many not among them."""
    if not are_wholes(thing) or not all_below(thing, many):
        return False
    return all([thing[at - 1] < thing[at] for at in range(1, len(thing))])


def is_word(thing, word):
    """Whether thing is just this text."""
    return isinstance(thing, str) and thing == word
