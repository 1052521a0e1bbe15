"""What the tests hand in as "anything", and how they look at a refusal."""

from fractions import Fraction

from sizeladders.errors import NoMeasure, NoText
from sizeladders.measures import Measure
from sizeladders.stretches import Stretch


class LooksLikeMeasure:
    """Has a measure's values, but is of another kind."""

    def __init__(self, top, bottom):
        self.top = top
        self.bottom = bottom


class LooksLikeStretch:
    """Has a stretch's values, but is of another kind."""

    def __init__(self, low, high, low_in, high_in):
        self.low = low
        self.high = high
        self.low_in = low_in
        self.high_in = high_in


class LooksWhole:
    """Can stand in for a whole number in many places, but is no int."""

    def __int__(self):
        return 1

    def __index__(self):
        return 1

    def __bool__(self):
        return True


def nested(thing, wrap, deep=30):
    """thing, wrapped deep times."""
    for unused in range(deep):
        thing = wrap(thing)
    return thing


def other_things():
    """Things of many kinds: no whole number, no Measure, no truth and not None among them."""
    return [
        "", "7", "1", "0", "1/2", "7 1/2", "(3, 5]", "None", "True", "x" * 5000, b"", b"7",
        (), (1,), (1, 2), (Measure(1),), (True, False), [], [1], [1, 2], [Measure(1)],
        {}, {1: 2}, {"top": 1, "bottom": 2}, {"low": None}, set(), {1}, frozenset([1]),
        range(1), object(), len, int, Measure, Stretch, NoMeasure("text"), NoText(0), Fraction(1, 2), Fraction(1),
        LooksWhole(), LooksLikeMeasure(1, 1), LooksLikeStretch(None, None, False, False),
        nested(1, lambda thing: (thing,)), nested(1, lambda thing: [thing]), nested(1, lambda thing: {1: thing}),
        nested(Measure(1), lambda thing: (thing, [thing]), 10), nested((), lambda thing: (thing,)),
        nested([], lambda thing: [thing]), nested({}, lambda thing: {"a": [thing]}, 15),
    ]


def no_whole_numbers():
    return other_things() + [None, True, False, Measure(1), Measure(1, 2), Stretch(None, None)]


def no_measures():
    return other_things() + [None, True, False, 0, 1, -1, 10 ** 5000, Stretch(None, None)]


def no_ends():
    return other_things() + [True, False, 0, 1, -1, 10 ** 5000, Stretch(None, None)]


def no_truths():
    return other_things() + [None, 0, 1, -1, 10 ** 5000, Measure(0), Measure(1), Stretch(None, None)]


def no_texts():
    return [thing for thing in no_measures() + [Measure(1)] if not isinstance(thing, str)]


def refusal_of(deed):
    """The error that deed raises, or None. Its very class is what the tests compare."""
    try:
        deed()
    except Exception as error:
        return error
    return None


def measure_of(fraction):
    fraction = Fraction(fraction)
    return Measure(fraction.numerator, fraction.denominator)


def fraction_of(measure):
    return Fraction(measure.top, measure.bottom)
