"""What the tests hand in as "anything", and how they look at a refusal."""

from fractions import Fraction

from sizeladders.desk import Desk
from sizeladders.errors import NoMeasure, NoText
from sizeladders.grids import Grid
from sizeladders.ladders import Ladder
from sizeladders.lands import Lands
from sizeladders.measures import Measure
from sizeladders.stretches import Stretch


TINY = Measure(1, 10 ** 30)


class LooksLikeMeasure:
    """Has a measure's values, but is of another kind."""

    def __init__(self, top, bottom):
        self.top = top
        self.bottom = bottom


class LooksLikeStretch:
    """Has a stretch's values, but is of another kind."""

    def __init__(self, low, high, low_in, high_in):
        self.low = low
        self.high = high
        self.low_in = low_in
        self.high_in = high_in


class LooksLikeLadder:
    """Has a ladder's values, but is of another kind."""

    def __init__(self, marks, rule="up", least=None, most=None):
        self.marks = marks
        self.rule = rule
        self.least = least
        self.most = most

    def __len__(self):
        return len(self.marks)


class LooksLikeGrid:
    """Has a grid's values, but is of another kind."""

    def __init__(self, lengths, breadths, grade):
        self.lengths = lengths
        self.breadths = breadths
        self.grade = grade


class LikeAll:
    """Says of itself that it is like whatever it stands beside."""

    def __eq__(self, other):
        return True

    def __ne__(self, other):
        return False

    __hash__ = None


class Touchy:
    """Fails when it is compared, counted or taken for a truth."""

    def __eq__(self, other):
        raise RuntimeError("compared")

    __ne__ = __lt__ = __le__ = __gt__ = __ge__ = __eq__
    __hash__ = None

    def __bool__(self):
        raise RuntimeError("taken for a truth")

    def __len__(self):
        raise RuntimeError("counted")

    def __iter__(self):
        raise RuntimeError("gone through")


class LooksWhole:
    """Can stand in for a whole number in many places, but is no int."""

    def __int__(self):
        return 1

    def __index__(self):
        return 1

    def __bool__(self):
        return True


def nested(thing, wrap, deep=30):
    """thing, wrapped deep times."""
    for unused in range(deep):
        thing = wrap(thing)
    return thing


def a_grid():
    return Grid(Ladder((Measure(1), Measure(2))), Ladder((Measure(1),)))


def a_book():
    book = Lands()
    book.tell("uk", Ladder((Measure(1), Measure(2))))
    return book


def other_things():
    """Things of many kinds: no whole number, no Measure, no truth and not None among them."""
    return [
        "", "7", "1", "0", "1/2", "7 1/2", "(3, 5]", "None", "True", "x" * 5000, b"", b"7",
        (), (1,), (1, 2), (Measure(1),), (True, False), [], [1], [1, 2], [Measure(1)],
        {}, {1: 2}, {"top": 1, "bottom": 2}, {"low": None}, set(), {1}, frozenset([1]),
        range(1), object(), len, int, Measure, Stretch, NoMeasure("text"), NoText(0), Fraction(1, 2), Fraction(1),
        LooksWhole(), LooksLikeMeasure(1, 1), LooksLikeStretch(None, None, False, False),
        Ladder((Measure(-99, 7),), "near"), LooksLikeLadder((Measure(1),)), Ladder, "up", ("up",),
        Lands(), a_book(), Lands, Desk(), a_grid(), LooksLikeGrid(a_grid().lengths, a_grid().breadths, Measure(0)), Grid,
        nested(1, lambda thing: (thing,)), nested(1, lambda thing: [thing]), nested(1, lambda thing: {1: thing}),
        nested(Measure(1), lambda thing: (thing, [thing]), 10), nested((), lambda thing: (thing,)),
        nested([], lambda thing: [thing]), nested({}, lambda thing: {"a": [thing]}, 15),
    ]


def no_whole_numbers():
    return other_things() + [None, True, False, Measure(1), Measure(1, 2), Stretch(None, None)]


def no_measures():
    return other_things() + [None, True, False, 0, 1, -1, 10 ** 5000, Stretch(None, None)]


def no_ends():
    return other_things() + [True, False, 0, 1, -1, 10 ** 5000, Stretch(None, None)]


def no_truths():
    return other_things() + [None, 0, 1, -1, 10 ** 5000, Measure(0), Measure(1), Stretch(None, None)]


def no_texts():
    return [thing for thing in no_measures() + [Measure(1)] if not isinstance(thing, str)]


def strangers():
    """Things that a looker must not even stand beside another thing."""
    return [LikeAll(), Touchy(), (LikeAll(),), (Touchy(),), (LikeAll(), LikeAll()), (Touchy(), Touchy()),
            ((LikeAll(), LikeAll()), (LikeAll(),)), ((Touchy(),), (Touchy(), Touchy())), [LikeAll(), Touchy()]]


def anything():
    """Things of every kind, those of the document among them."""
    return no_measures() + [Measure(0), Measure(1), Measure(-7, 2), 2, 3, 24] + strangers()


def otherwise(thing):
    """The thing with just one of its parts otherwise than it was, in many ways."""
    yield from other_kinds(thing)
    if isinstance(thing, tuple):
        for at, part in enumerate(thing):
            for other in otherwise(part):
                yield thing[:at] + (other,) + thing[at + 1:]


def other_kinds(thing):
    """Other things in the place of this one, most of them near to it."""
    yield from [None, True, False, (), [], "", 0, 1, -1, Measure(1), (thing,), [thing], LikeAll(), Touchy()]
    if isinstance(thing, tuple):
        yield from [list(thing), thing[:-1], thing[1:], thing[::-1], thing + thing[:1], thing + thing[-1:], thing + (0,),
                    thing + (None,), thing + thing, tuple(sorted(thing, key=repr))]
    elif isinstance(thing, int):
        yield from [thing + 1, thing - 1, -thing, -1 - thing, thing + 24, 10 ** 30, str(thing), Fraction(thing),
                    Measure(thing)]
    elif isinstance(thing, str):
        yield from [thing + " ", thing.upper(), thing[:-1], thing.encode(), "alike", "part", "at", "behind", "comes",
                    "stops", "even", "odd", "never", "stock", "pair", "none", "short", "long", "narrow", "broad"]
    elif isinstance(thing, Measure):
        yield from [thing.plus(TINY), thing.minus(TINY), thing.plus(Measure(1)), thing.minus(Measure(1)),
                    Measure(10 ** 30), Measure(-10 ** 30), thing.top, str(thing), (thing.top, thing.bottom),
                    fraction_of(thing), LooksLikeMeasure(thing.top, thing.bottom), Stretch(thing, thing, True)]


def refusal_of(deed):
    """The error that deed raises, or None. Its very class is what the tests compare."""
    try:
        deed()
    except Exception as error:
        return error
    return None


def measure_of(fraction):
    fraction = Fraction(fraction)
    return Measure(fraction.numerator, fraction.denominator)


def fraction_of(measure):
    return Fraction(measure.top, measure.bottom)
