"""Stage 11: the cascade, whose passes merge ever fewer reels."""

from fewreels.best import best_over
from fewreels.lengths import best_by
from fewreels.levels import check_level, check_ways, first_counts
from fewreels.numbers import check_total, numbers_after, numbers_told
from fewreels.spreads import both_spreads, spread_after

LAST_CASCADE = 100


def next_cascade_counts(counts):
    """The counts of the level one pass behind the one that has these."""
    sums = []
    for count in counts:
        sums.append(count + sums[-1] if sums else count)
    return tuple(sums[::-1])


def next_cascade_numbers(numbers):
    """The numbers of the level one pass behind the one that has these."""
    read = ()
    reels = []
    for on_reel in numbers[:-1]:
        read = read + tuple([number + 1 for number in on_reel])
        reels.append(read)
    # What the last reel had is left on the first, unread by this pass.
    return tuple([read + numbers[-1]] + reels[::-1])


def next_cascade_spreads(spreads):
    """How many places of each reel have each number by the level one pass behind."""
    read = {}
    reels = []
    for spread in spreads[:-1]:
        read = both_spreads(read, {number + 1: many for number, many in spread.items()})
        reels.append(read)
    return [both_spreads(read, spreads[-1])] + reels[::-1]


def check_cascade(p, n):
    """Refuse what are no ways, then what is no level of the cascade, of anything."""
    check_ways(p)
    check_level(n, LAST_CASCADE)


def cascade_counts(p, n):
    """How many rows each reel that is read has by level n of the cascade."""
    check_cascade(p, n)
    counts = first_counts(p)
    for level in range(n):
        counts = next_cascade_counts(counts)
    return counts


def cascade_numbers(p, n):
    """For each reel how often the row at each of its places is read by the cascade."""
    check_total(sum(cascade_counts(p, n)))
    return numbers_after(p, n, next_cascade_numbers)


def cascade_spread(p, n):
    """The rising pairs of a number and how many places of level n of the cascade have it."""
    check_cascade(p, n)
    return spread_after(p, n, next_cascade_spreads)


def best_cascade(p, rows):
    """The least reading of so many rows by the cascade, and the first level that has it."""
    check_ways(p)
    return best_over(p, rows, LAST_CASCADE, next_cascade_spreads)


def long_cascade(p, lengths):
    """The least reading of rows of these lengths by the cascade, and the first level that has it."""
    check_ways(p)
    return best_by(numbers_told(p, next_cascade_numbers), lengths)[:2]
