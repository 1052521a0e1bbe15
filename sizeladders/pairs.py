"""Pairs of sizes that fit feet measured by two, and which rule of which foot a pair breaks."""

from sizeladders.kinds import are_wholes, is_number, is_tuple_of, is_whole, is_word


def broken(grid, pair, foot, slack):
    """The rising tuple of the rules of a foot that a pair breaks."""
    length, breadth = foot
    long = grid.long_mark(pair)
    broad = grid.broad_mark(pair)
    rules = [("broad", breadth.plus(slack).is_below(broad)), ("long", length.plus(slack).is_below(long)),
             ("narrow", broad.is_below(breadth)), ("short", long.is_below(length))]
    return tuple([rule for rule, breaks in rules if breaks])


def pairs_of(grid):
    """All pairs of the grid, rising."""
    return [(long, broad) for long in range(len(grid.lengths)) for broad in range(len(grid.breadths))]


def first_broken(grid, pair, feet, slack):
    """(number, rule) of the first foot of which the pair breaks a rule, or None where it breaks none."""
    for number, foot in enumerate(feet):
        rules = broken(grid, pair, foot, slack)
        if len(rules) > 0:
            return number, rules[0]
    return None


def pair_for(grid, feet, slack):
    """("pair", the least pair that breaks no rule of any foot), or ("none", papers), one paper for each pair."""
    papers = []
    for pair in pairs_of(grid):
        found = first_broken(grid, pair, feet, slack)
        if found is None:
            return "pair", pair
        papers.append(pair + found)
    return "none", tuple(papers)


def is_paper(grid, feet, slack, pair, thing):
    """Whether thing tells a foot, and a rule of it, that this pair breaks."""
    if not is_tuple_of(thing, 4):
        return False
    long, broad, number, rule = thing
    if not is_number(long, pair[0]) or not is_number(broad, pair[1]):
        return False
    if not is_whole(number) or not 0 <= number < len(feet):
        return False
    return isinstance(rule, str) and rule in broken(grid, pair, feet[number], slack)


def are_papers(grid, feet, slack, thing):
    """Whether thing is a tuple of a paper for each pair, rising."""
    pairs = pairs_of(grid)
    if not is_tuple_of(thing, len(pairs)):
        return False
    return all([is_paper(grid, feet, slack, pair, paper) for pair, paper in zip(pairs, thing)])


def shows_pair(grid, feet, slack, thing):
    """Whether thing is such as pair_for tells."""
    word, meant = pair_for(grid, feet, slack)
    if not is_tuple_of(thing, 2) or not is_word(thing[0], word):
        return False
    if word == "pair":
        return are_wholes(thing[1]) and thing[1] == meant
    return are_papers(grid, feet, slack, thing[1])
