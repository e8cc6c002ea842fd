"""Stage 10: reels that are read from the end, so that what rises is written falling."""

from fewreels.errors import Clash, NoLevel
from fewreels.levels import check_ways, first_counts, next_counts
from fewreels.numbers import check_places
from fewreels.playing import level_phases, taken_at, things_in
from fewreels.rows import merged_row


def next_turned(numbers):
    """The turned numbers by the level behind the one that has these."""
    first = [number + 1 for number in numbers[0][::-1]]
    return [on_reel + first for on_reel in numbers[1:] + [[]]]


def turned_numbers(p, n):
    """For each reel the numbers of its places by level n, in the order of laying."""
    check_places(p, n)
    numbers = [[0]] + [[] for reel in range(p - 1)]
    for level in range(n):
        numbers = next_turned(numbers)
    return numbers


def turned_ups(p, n):
    """For each place, in the order of laying, whether its row is to rise so that the last one rises."""
    return [[number % 2 == 0 for number in on_reel] for on_reel in turned_numbers(p, n)]


def level_with(p, counts):
    """The level that has these counts."""
    level = 0
    of_level = first_counts(p)
    while sum(of_level) < sum(counts):
        of_level = next_counts(of_level)
        level += 1
    if of_level != counts:
        raise NoLevel("the reels have no level's counts of rows")
    return level


def copied_turned(row):
    """The turned row with a list of its own, None where it is idle."""
    if row is None:
        return None
    up, things = row
    return (up, list(things))


def merged_turned(rows, at):
    """What the merging of this number writes of turned rows, None where all are idle."""
    real = [row for row in rows if row is not None]
    if not real:
        return None
    ups = [up for up, things in real]
    if True in ups and False in ups:
        raise Clash(at)
    things = merged_row([things for up, things in real])
    # What rises is read from its last thing on, the greatest, and so the greatest is written first.
    return (False, things[::-1]) if ups[0] else (True, things)


def things_turned(rows):
    """How many things all turned rows have that aren't idle."""
    return things_in([row[1] for row in rows if row is not None])


def turned_phase(reels, phase, merged):
    """The reels behind a phase that has so many mergings ahead of it, and how many things were read of each."""
    out, many = phase
    taken = [reel[::-1][:many] for reel in reels]
    behind = [reel[:max(len(reel) - many, 0)] for reel in reels]
    behind[out] = [merged_turned(taken_at(taken, at), merged + at) for at in range(many)]
    return (behind, [things_turned(rows) for rows in taken])


def turned_play(p, reels):
    """The last turned row, None where all are idle, and how many things were read of each reel."""
    check_ways(p)
    level = level_with(p, tuple([len(reel) for reel in reels]))
    behind = [[copied_turned(row) for row in reel] for reel in reels] + [[]]
    read = [0] * (p + 1)
    merged = 0
    for phase in level_phases(p, level):
        behind, of_each = turned_phase(behind, phase, merged)
        read = [ahead + more for ahead, more in zip(read, of_each)]
        merged += phase[1]
    left = [row for reel in behind for row in reel]
    return (left[0], read)
