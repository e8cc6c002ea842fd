"""Stage 5: how many places of a level have each number, however far the level."""

from fewreels.levels import check_level, check_ways


def first_spreads(p):
    """For each reel how many of its places have each number, by level 0."""
    return [{0: 1}] + [{} for reel in range(p - 1)]


def both_spreads(one, other):
    """How many places of either have each number."""
    both = dict(one)
    for number, many in other.items():
        both[number] = both.get(number, 0) + many
    return both


def next_spreads(spreads):
    """What each reel has by the level behind the one that has these."""
    first = {number + 1: many for number, many in spreads[0].items()}
    return [both_spreads(first, spread) for spread in spreads[1:]] + [first]


def spread_over(spreads):
    """The spread of all reels together."""
    spread = {}
    for on_reel in spreads:
        spread = both_spreads(spread, on_reel)
    return tuple(sorted(spread.items()))


def spread_after(p, n, following):
    """The spread of level n, each level's reels being what this function makes of those ahead."""
    spreads = first_spreads(p)
    for level in range(n):
        spreads = following(spreads)
    return spread_over(spreads)


def spread_of(p, n):
    """The rising pairs of a number and how many places of level n have it."""
    check_ways(p)
    check_level(n)
    return spread_after(p, n, next_spreads)


def least_of_spread(spread, rows):
    """So many of the least numbers of a spread together, None where it has fewer."""
    reading = 0
    left = rows
    for number, many in spread:
        reading += number * min(many, left)
        left -= min(many, left)
    return None if left > 0 else reading
