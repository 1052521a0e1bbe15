"""A desk by the document's words, over plain lands: what the program answers is looked at beside this one."""

import re

from sizeladders.errors import LandTwice, NoLand, NoLine, NothingBack, NoText
from tests.bookwords import book_text, called_in, label_of, lead_of, measure_text, stretch_text
from tests.partwords import meant_of
from tests.roundwords import comes_back, runs_of
from tests.textwords import MEASURE, fraction_in, row_in
from tests.words import size_of

NAME = "[a-z]{1,8}"
FORMS = {
    "tell": "tell (.*)", "drop": f"drop ({NAME})", "back": "back", "book": "book", "size": f"size ({NAME}) ({MEASURE})",
    "stretch": f"stretch ({NAME}) ({MEASURE})", "lead": f"lead ({NAME}) ({MEASURE}) ({NAME})",
    "round": f"round ({NAME}) ({MEASURE})((?: {NAME}){{1,4}})", "part": f"part ({NAME}) ({NAME}) ({MEASURE}) to ({MEASURE})",
}


class PlainDesk:
    """Tells what a desk should: ("said", text), or ("refused", class, values)."""

    def __init__(self, lands):
        self.lands = dict(lands)
        names = sorted(lands)
        self.past = [{name: lands[name] for name in names[:many]} for many in range(len(names))]

    def say(self, line):
        for word, form in FORMS.items():
            match = re.fullmatch(form, line, re.DOTALL)
            if match:
                return getattr(self, word)(*match.groups())
        return "refused", NoLine, {}

    def measured(self, words, names, answer):
        """The answer of the measures, where they are such and all the lands stand."""
        measures = [fraction_in(word) for word in words]
        if None in measures:
            return "refused", NoLine, {}
        for name in names:
            if name not in self.lands:
                return "refused", NoLand, {"name": name}
        return "said", answer(*measures, *[self.lands[name] for name in names])

    def changed(self, lands):
        self.past.append(self.lands)
        self.lands = lands
        return "said", "done"

    def tell(self, row):
        found = row_in(row)
        if type(found) is str:
            return "refused", NoText, {"row": 0, "why": found}
        if found[0] in self.lands:
            return "refused", LandTwice, {"name": found[0]}
        return self.changed({**self.lands, found[0]: found[1]})

    def drop(self, name):
        if name not in self.lands:
            return "refused", NoLand, {"name": name}
        return self.changed({each: self.lands[each] for each in self.lands if each != name})

    def back(self):
        if not self.past:
            return "refused", NothingBack, {}
        self.lands = self.past.pop()
        return "said", "done"

    def book(self):
        return "said", book_text(self.lands)

    def size(self, name, word):
        return self.measured([word], [name], size_answer)

    def stretch(self, name, word):
        return self.measured([word], [name], stretch_answer)

    def lead(self, name, word, other):
        return self.measured([word], [name, other], lead_answer)

    def round(self, name, word, others):
        return self.measured([word], [name] + others.split(), round_answer)

    def part(self, one, other, low, high):
        return self.measured([low, high], [one, other], part_answer)


def size_answer(measure, land):
    number = size_of(land[0], measure)
    return "-" if number is None else measure_text(label_of(land, number))


def stretch_answer(label, land):
    number = called_in(land, label)
    return "-" if number is None else stretch_text(land[0], number)


def lead_answer(label, here, there):
    return ", ".join(measure_text(each) for each in lead_of(here, label, there)) or "-"


def round_answer(label, *lands):
    number, plains = called_in(lands[0], label), tuple(land[0] for land in lands)
    if number is None:
        return "-"
    if not comes_back(plains, number):
        return "stops"
    low, high = runs_of(plains, number)[-1]
    return f"{measure_text(label_of(lands[0], low))} .. {measure_text(label_of(lands[0], high))}"


def part_answer(low, high, one, other):
    if low > high:
        return "-"
    meant = meant_of(one[0], other[0], low, high, 0)
    return "alike" if meant == ("alike",) else f"{meant[2]} {measure_text(meant[1])}"
