"""A book of lands: each has a name, a ladder and labels; what was told or dropped can be taken back."""

from sizeladders.errors import LandTwice, NoLadder, NoLand, NoSize, NothingBack
from sizeladders.ladders import Ladder, has_size
from sizeladders.leading import led
from sizeladders.measures import Measure, is_measure_or_none, measure_or

LETTERS = "abcdefghijklmnopqrstuvwxyz"
MOST_LETTERS = 8


def is_name(thing):
    """Whether thing is a text of 1 to 8 letters a to z."""
    if not isinstance(thing, str) or not 1 <= len(thing) <= MOST_LETTERS:
        return False
    return all([letter in LETTERS for letter in thing])


def is_label_step(measure):
    """Whether labels rise by this Measure."""
    return Measure(0).is_below(measure)


def land_of(lands, name):
    """The land of that name: (ladder, first, step)."""
    # Looked at first, as not everything may stand beside the keys of a dict.
    if not is_name(name) or name not in lands:
        raise NoLand(name)
    return lands[name]


def label_of(land, number):
    """The Measure that this size of a land is called."""
    ladder, first, step = land
    return first.plus(step.times(Measure(number)))


def number_called(land, label):
    """The number of the size of a land that is so called, or None."""
    ladder, first, step = land
    for number in range(len(ladder)):
        if label_of(land, number) == label:
            return number
    return None


def row_text(name, land):
    """The row of a land in a book's text."""
    ladder, first, step = land
    return f"{name} {first} + {step} | {ladder}"


class Lands:
    """Lands by their names, and the deeds by which they came to stand."""

    def __init__(self):
        self.lands = {}
        # For each deed that can be undone: the name, and the land that stood there ahead of it, or None.
        self.deeds = []

    def __eq__(self, other):
        return isinstance(other, Lands) and self.lands == other.lands

    def __str__(self):
        if len(self.lands) == 0:
            return "none"
        return "\n".join([row_text(name, self.lands[name]) for name in self.names()])

    def __repr__(self):
        return f"Lands({len(self.lands)})"

    def __len__(self):
        return len(self.lands)

    def tell(self, name, ladder, first=None, step=None):
        """A land stands from now on: size k is called first and k times step."""
        if not is_name(name):
            raise NoLadder("the name of a land is a text of 1 to 8 letters a to z")
        if not isinstance(ladder, Ladder):
            raise NoLadder("a land has a Ladder")
        if not is_measure_or_none(first) or not is_measure_or_none(step):
            raise NoLadder("first and step of a land are Measures or None")
        land = (ladder, measure_or(first, 0), measure_or(step, 1))
        if not is_label_step(land[2]):
            raise NoLadder("the step of a land is above 0")
        if name in self.lands:
            raise LandTwice(name)
        self.lands[name] = land
        self.deeds.append((name, None))

    def drop(self, name):
        """That land stands no more."""
        land = land_of(self.lands, name)
        self.lands.pop(name)
        self.deeds.append((name, land))

    def back(self):
        """The last deed that was not taken back is undone."""
        if len(self.deeds) == 0:
            raise NothingBack("nothing is left to undo")
        name, land = self.deeds.pop()
        if land is None:
            self.lands.pop(name)
        else:
            self.lands[name] = land

    def ladder(self, name):
        """The Ladder of that land."""
        return land_of(self.lands, name)[0]

    def label(self, name, number):
        """The Measure that this size of that land is called."""
        land = land_of(self.lands, name)
        if not has_size(land[0], number):
            raise NoSize(number)
        return label_of(land, number)

    def called(self, name, label):
        """The number of the size of that land that is so called, or None."""
        return number_called(land_of(self.lands, name), label)

    def lead(self, name, label, other):
        """The rising tuple of the labels of the sizes of other to which the size of that label is led."""
        here = land_of(self.lands, name)
        there = land_of(self.lands, other)
        number = number_called(here, label)
        if number is None:
            return ()
        run = led(here[0], number, there[0])
        if run is None:
            return ()
        return tuple([label_of(there, size) for size in range(run[0], run[1] + 1)])

    def names(self):
        """The rising tuple of the names of all lands that stand."""
        return tuple(sorted(list(self.lands)))
