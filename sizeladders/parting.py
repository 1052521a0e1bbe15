"""Where two ladders part: the first measure of a span at which, or just behind which, they are not alike."""


def turns_of(ladder):
    """All measures at or behind which the size can become another one: the ends of the sizes' stretches."""
    stretches = [ladder.stretch(number) for number in range(len(ladder))]
    ends = [end for stretch in stretches if stretch is not None for end in [stretch.low, stretch.high]]
    return [end for end in ends if end is not None]


def turn_behind(turns, measure, high):
    """The least turn above measure, or high where none is below that."""
    least = high
    for turn in turns:
        if measure.is_below(turn) and turn.is_below(least):
            least = turn
    return least


def points_of(turns, low, high):
    """low, all turns between, and high, rising; none at all where low is above high."""
    points = []
    point = low
    while point.is_below(high):
        points.append(point)
        point = turn_behind(turns, point, high)
    if point == high:
        points.append(point)
    return points


def looks_of(points):
    """(measure, where, look) in order: look stands for all measures at the point, or between it and the next one."""
    looks = []
    for at, point in enumerate(points):
        looks.append((point, "at", point))
        if at + 1 < len(points):
            looks.append((point, "behind", point.plus(points[at + 1]).parted()))
    return looks


def are_alike(here, there, shift):
    """Whether these are both no size, or both one and there is here and shift."""
    if here is None or there is None:
        return here is None and there is None
    return there == here + shift


def parting(one, other, low, high, shift=0):
    """("alike",), or ("part", measure, where, here, there) of the first place where the ladders are not alike."""
    points = points_of(turns_of(one) + turns_of(other), low, high)
    for measure, where, look in looks_of(points):
        here = one.size(look)
        there = other.size(look)
        if not are_alike(here, there, shift):
            return "part", measure, where, here, there
    return ("alike",)
