"""How ladders, rows and books are written, as patterns: what the program reads is looked at beside these."""

import re
from fractions import Fraction

from tests.bookwords import measure_text

NUMBER = "[0-9]{1,12}"
MEASURE = f"-?(?:{NUMBER}|{NUMBER}/{NUMBER}|{NUMBER} {NUMBER}/{NUMBER})"
LADDER = rf"(up|down|near): ({MEASURE}(?:, {MEASURE})*)(?: from ({MEASURE}))?(?: to ({MEASURE}))?"
ROW = rf"([a-z]{{1,8}}) ({MEASURE}) \+ ({MEASURE}) \| ({LADDER})"


def fraction_in(text):
    """The fraction whose text this is, or None."""
    if not re.fullmatch(MEASURE, text):
        return None
    parts = [[int(number) for number in word.split("/")] for word in text.lstrip("-").split(" ")]
    if any(len(part) == 2 and part[1] == 0 for part in parts):
        return None
    fraction = sum(Fraction(*part) for part in parts) * (-1 if text.startswith("-") else 1)
    return fraction if measure_text(fraction) == text else None


def ladder_in(text):
    """The plain ladder whose text this is, or why there is none."""
    match = re.fullmatch(LADDER, text)
    if not match:
        return "form"
    rule, row, *ends = match.groups()
    marks = [fraction_in(mark) for mark in row.split(", ")]
    bounds = [None if end is None else fraction_in(end) for end in ends]
    if None in marks or len(marks) > 24 or any(end is not None and bound is None for end, bound in zip(ends, bounds)):
        return "form"
    if any(one >= other for one, other in zip(marks, marks[1:])):
        return "slip"
    if None not in bounds and bounds[0] > bounds[1]:
        return "span"
    return tuple(marks), rule, *bounds


def row_in(text, ahead=""):
    """(name, plain land) of a row, or why there is none."""
    match = re.fullmatch(ROW, text)
    if not match:
        return "form"
    name, first, step, ladder = match.groups()[:4]
    first, step, plain = fraction_in(first), fraction_in(step), ladder_in(ladder)
    if first is None or step is None or plain == "form":
        return "form"
    if type(plain) is str:
        return plain
    if step <= 0:
        return "step"
    return (name, (plain, first, step)) if name > ahead else "name"


def book_in(text):
    """The plain lands of a book's text, or (row, why)."""
    if text == "none":
        return {}
    lands, ahead = {}, ""
    for row, line in enumerate(text.split("\n")):
        found = row_in(line, ahead)
        if type(found) is str:
            return row, found
        ahead = found[0]
        lands[ahead] = found[1]
    return lands


def bent(text, letters):
    """The text bent at each of its places: a letter fewer, more, or another one."""
    for at in range(len(text) + 1):
        yield text[:at]
        yield text[at:]
        yield text[:at] + text[at + 1:]
        yield text[:at] + text[at:at + 1] * 2 + text[at + 1:]
        yield text[:at] + text[at:at + 2][::-1] + text[at + 2:]
        for letter in letters:
            yield text[:at] + letter + text[at:]
            yield text[:at] + letter + text[at + 1:]
