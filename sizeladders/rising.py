"""The most rows of a table that rise, with numbers that show that no more do."""

from sizeladders.kinds import all_below, are_rising, are_wholes, is_tuple_of
from sizeladders.slips import slip_of


def heights_of(rows):
    """For each row, how many rows can rise to it from ahead, itself not counted."""
    heights = []
    for number in range(len(rows)):
        ahead = [heights[at] + 1 for at in range(number) if rows[at].is_below(rows[number])]
        heights.append(max(ahead, default=0))
    return heights


def kept_by(heights):
    """The numbers of rows that rise, one of each height."""
    kept = []
    wanted = max(heights, default=0)
    for number in reversed(range(len(heights))):
        # Rows of one height don't rise, so the last of them ahead of a kept row is the least, and below that row.
        if heights[number] == wanted:
            kept.insert(0, number)
            wanted -= 1
    return kept


def rise_of(rows):
    """(kept, numbers): rows that rise, as many as can be, and a number for each row that shows that no more do."""
    heights = heights_of(rows)
    return tuple(kept_by(heights)), tuple(heights)


def is_kept(rows, thing):
    """Whether thing is a rising tuple of numbers of rows that rise."""
    if not are_rising(thing, len(rows)):
        return False
    return slip_of([rows[number] for number in thing]) is None


def rises_in_one(rows, numbers, last):
    """Whether the row last is above one ahead of it that has the same number."""
    return any([numbers[at] == numbers[last] and rows[at].is_below(rows[last]) for at in range(last)])


def is_numbering(rows, thing, many):
    """Whether thing has a whole number below many for each row, and no two rows of one number rise."""
    if not are_wholes(thing) or len(thing) != len(rows) or not all_below(thing, many):
        return False
    return not any([rises_in_one(rows, thing, last) for last in range(len(rows))])


def shows_rise(rows, thing):
    """Whether thing is such as rise_of tells of the rows."""
    if not is_tuple_of(thing, 2):
        return False
    kept, numbers = thing
    return is_kept(rows, kept) and is_numbering(rows, numbers, len(kept))
