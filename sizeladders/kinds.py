"""What kind of thing was handed in: looked at ahead of `==`, to which True is 1 and a stranger may be anything."""


def is_whole(thing):
    """Whether thing is a whole number; True and False are none."""
    return isinstance(thing, int) and not isinstance(thing, bool)


def is_tuple_of(thing, many):
    """Whether thing is a tuple of so many things."""
    return isinstance(thing, tuple) and len(thing) == many


def are_wholes(thing):
    """Whether thing is a tuple of whole numbers."""
    return isinstance(thing, tuple) and all([is_whole(part) for part in thing])


def is_word(thing, word):
    """Whether thing is just this text."""
    return isinstance(thing, str) and thing == word
