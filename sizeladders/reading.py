"""Ladders and books of lands, read from their texts as they are written."""

from sizeladders.errors import NoText
from sizeladders.ladders import Ladder, are_marks, is_rule, is_span
from sizeladders.lands import Lands, is_name, is_label_step
from sizeladders.measures import measure_in
from sizeladders.slips import slip_of


def parted_at(text, word):
    """What stands ahead of the word, and what stands behind it, or None where the word doesn't stand in the text."""
    ahead, found, behind = text.partition(word)
    if found == "":
        return ahead, None
    return ahead, behind


def is_bound_text(text):
    """Whether text is that of a bound, or None for a bound that isn't told."""
    return text is None or measure_in(text) is not None


def bound_in(text):
    """The Measure of a bound, or None for one that isn't told."""
    if text is None:
        return None
    return measure_in(text)


def ladder_parts(text):
    """(marks, rule, least, most) of a ladder's text, the marks rising or not; None where it isn't so written."""
    # Where a sign is missing, nothing stands behind it, and nothing is no measure: so missing signs need no look.
    rule, colon, behind = text.partition(": ")
    ahead, most = parted_at(behind, " to ")
    row, least = parted_at(ahead, " from ")
    marks = tuple([measure_in(word) for word in row.split(", ")])
    if not is_rule(rule) or not are_marks(marks) or not is_bound_text(least) or not is_bound_text(most):
        return None
    return marks, rule, bound_in(least), bound_in(most)


def ladder_why(parts):
    """Why there is no ladder of these parts, or None where there is."""
    if parts is None:
        return "form"
    marks, rule, least, most = parts
    if slip_of(marks) is not None:
        return "slip"
    if not is_span(least, most):
        return "span"
    return None


def ladder_by(parts):
    """The Ladder of these parts."""
    marks, rule, least, most = parts
    return Ladder(marks, rule, least, most)


def read_ladder(text):
    """The Ladder whose str text is."""
    if not isinstance(text, str):
        raise NoText(0)
    parts = ladder_parts(text)
    why = ladder_why(parts)
    if why is not None:
        raise NoText(0, why)
    return ladder_by(parts)


def row_parts(text):
    """(name, first, step, parts of the ladder) of a land's row; None where it isn't so written."""
    head, bar, ladder = text.partition(" | ")
    ahead, sign, step = head.partition(" + ")
    name, blank, first = ahead.partition(" ")
    parts = (name, measure_in(first), measure_in(step), ladder_parts(ladder))
    if not is_name(name) or any([part is None for part in parts]):
        return None
    return parts


def row_why(parts):
    """Why there is no land of these parts, or None where there is."""
    if parts is None:
        return "form"
    name, first, step, ladder = parts
    why = ladder_why(ladder)
    if why is None and not is_label_step(step):
        return "step"
    return why


def read_row(text, row):
    """(name, ladder, first, step) of a land's row, the number of which is told where it is refused."""
    parts = row_parts(text)
    why = row_why(parts)
    if why is not None:
        raise NoText(row, why)
    name, first, step, ladder = parts
    return name, ladder_by(ladder), first, step


def read_lands(text):
    """The Lands whose str text is, told row by row."""
    if not isinstance(text, str):
        raise NoText(0)
    book = Lands()
    if text == "none":
        return book
    ahead = ""
    for row, line in enumerate(text.split("\n")):
        name, ladder, first, step = read_row(line, row)
        if not ahead < name:
            raise NoText(row, "name")
        book.tell(name, ladder, first, step)
        ahead = name
    return book
