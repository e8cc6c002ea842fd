"""Stage 3: levels, and how many rows each reel has by them."""

from fewreels.errors import NoLevel, NoWays, TooFew, TooMany
from fewreels.wholes import is_whole

LEAST_WAYS = 2
MOST_WAYS = 7
LAST_LEVEL = 300
MOST_ROWS = 10 ** 60


def check_ways(p):
    """Refuse what is no number of reels that are read at once, of anything."""
    if not is_whole(p) or not LEAST_WAYS <= p <= MOST_WAYS:
        raise NoWays(f"from {LEAST_WAYS} to {MOST_WAYS} reels are read at once")


def check_level(n, last=LAST_LEVEL):
    """Refuse what is no level up to the last one, of anything."""
    if not is_whole(n) or not 0 <= n <= last:
        raise NoLevel(f"a level is a whole number from 0 to {last}")


def first_counts(p):
    """The counts of level 0."""
    return tuple([1] + [0] * (p - 1))


def next_counts(counts):
    """The counts of the level behind the one that has these."""
    first = counts[0]
    return tuple([first + count for count in counts[1:]] + [first])


def level_counts(p, n):
    """How many rows each reel that is read has by level n."""
    check_ways(p)
    check_level(n)
    counts = first_counts(p)
    for level in range(n):
        counts = next_counts(counts)
    return counts


def level_total(p, n):
    """How many rows level n has in all."""
    return sum(level_counts(p, n))


def level_of(p, rows):
    """The first level that has so many rows or more."""
    check_ways(p)
    if rows < 1:
        raise TooFew("a level is of one row at least")
    if rows > MOST_ROWS:
        raise TooMany("a level is of at most 10 ** 60 rows")
    level = 0
    counts = first_counts(p)
    while sum(counts) < rows:
        counts = next_counts(counts)
        level += 1
    return level
