"""Books of lands by the document's words, over plain ladders: what the program tells is looked at beside these.

A plain land here is (plain ladder, first, step), a plain book a dict of them by their names.
"""

import functools
import random
from fractions import Fraction

from sizeladders.lands import Lands
from tests.things import measure_of
from tests.words import SIDE_BY_SIDE, TINY, borders_of, ladder_of, marks_of, met_of, points_of, size_of

NAMES = ["a", "b", "eu", "uk", "us", "japan", "none", "to", "tell", "abcdefgh", "zzzzzzzz", "aa"]
LABELS = [(Fraction(0), Fraction(1)), (Fraction(35), Fraction(1)), (Fraction(5, 2), Fraction(1, 2)),
          (Fraction(-3, 2), Fraction(1, 3)), (Fraction(-7), Fraction(22, 7)), (Fraction(0), Fraction(999999999999))]
PLAINS = [plain for plain in SIDE_BY_SIDE if len(plain[0]) < 20] + [
    (marks_of("-7/2", "999999999999", "1999999999999/2"), "near", None, None),
    (marks_of("1/999999999999", "2/3"), "down", Fraction(-1, 2), Fraction(7, 2)),
    (marks_of(1, 2), "up", Fraction(5), Fraction(6)),
]


def measure_text(fraction):
    """The text of a measure: a sign, the whole part where there is one, the rest where there is one."""
    whole, rest = divmod(abs(fraction.numerator), fraction.denominator)
    words = [str(whole)] if whole or not rest else []
    words += [f"{rest}/{fraction.denominator}"] if rest else []
    return ("-" if fraction < 0 else "") + " ".join(words)


def ladder_text(plain):
    marks, rule, least, most = plain
    text = f"{rule}: {', '.join(measure_text(mark) for mark in marks)}"
    text += "" if least is None else f" from {measure_text(least)}"
    return text + ("" if most is None else f" to {measure_text(most)}")


def row_text(name, land):
    plain, first, step = land
    return f"{name} {measure_text(first)} + {measure_text(step)} | {ladder_text(plain)}"


def book_text(lands):
    return "\n".join(row_text(name, lands[name]) for name in sorted(lands)) or "none"


def label_of(land, number):
    return land[1] + number * land[2]


def called_in(land, label):
    """The number of the size that is so called, or None."""
    numbers = [number for number in range(len(land[0][0])) if label_of(land, number) == label]
    return numbers[0] if numbers else None


def lead_of(here, label, there):
    number = called_in(here, label)
    return [] if number is None else [label_of(there, size) for size in met_of(here[0], number, there[0])]


@functools.cache
def stretch_text(plain, number):
    """The text of the measures that come to a size, found piece by piece; `-` where none does."""
    borders = sorted(borders_of(plain))
    pieces = [(".., ", None, borders[0] - 1)]
    for at, border in enumerate(borders):
        behind = (border + borders[at + 1]) / 2 if at + 1 < len(borders) else border + 1
        pieces += [("at", border, border), ("behind", border, behind)]
    mine = [at for at, (where, border, look) in enumerate(pieces) if size_of(plain, look) == number]
    if not mine:
        return "-"
    assert mine == list(range(mine[0], mine[-1] + 1))
    where, border, look = pieces[mine[0]]
    low = "(.." if border is None else ("[" if where == "at" else "(") + measure_text(border)
    where, border, look = pieces[mine[-1]]
    if where == "at":
        return f"{low}, {measure_text(border)}]"
    high = pieces[mine[-1] + 1][1] if mine[-1] + 1 < len(pieces) else None
    return f"{low}, {'..' if high is None else measure_text(high)})"


def labels_near(land):
    """All labels of a land, and measures that are none of them: between, beside, ahead and behind."""
    labels = [label_of(land, number) for number in range(len(land[0][0]))]
    others = [label + step for label in labels for step in [land[2] / 2, TINY, -TINY]]
    return labels + others + [labels[0] - land[2], labels[-1] + land[2], Fraction(0), Fraction(-1), Fraction(10 ** 30)]


def drawn_land(draw):
    return draw.choice(PLAINS), *draw.choice(LABELS)


def told_to(book, name, land):
    """Tells a book a plain land."""
    return book.tell(name, ladder_of(land[0]), measure_of(land[1]), measure_of(land[2]))


def book_of(lands):
    """A book that was told just these lands, in the order of the dict."""
    book = Lands()
    for name in lands:
        told_to(book, name, lands[name])
    return book


def drawn_lands(seed, many):
    """So many lands, of drawn names."""
    draw = random.Random(seed)
    return {name: drawn_land(draw) for name in draw.sample(NAMES, many)}


def looks_at(plain):
    """Measures to ask a ladder for: at borders, beside and between them."""
    return points_of(plain)
