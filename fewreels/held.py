"""Stage 13: four ways to merge rows, held against one another."""

from fewreels.best import best_reading
from fewreels.cascade import best_cascade, long_cascade
from fewreels.joins import least_join
from fewreels.lengths import best_placing
from fewreels.levels import check_ways


def like_join(p, rows):
    """The least reading of any log of so many like rows."""
    power = 1
    times = 0
    while power * p <= rows:
        power *= p
        times += 1
    # Each row is read as often as all of the power would be; those over the power make some be read once more.
    over = rows - power
    return rows * times + over + -(-over // (p - 1))


def balanced_passes(p, rows):
    """How many balanced passes make one row of so many."""
    half = (p + 1) // 2
    reach = 1
    passes = 0
    while reach < rows:
        reach *= half
        passes += 1
    return passes


def balanced_reading(p, rows, things):
    """What balanced passes read of so many rows that have so many things in all, None where p is 2."""
    # Of three reels but one would be read at once: nothing is merged by that.
    return None if p == 2 else things * balanced_passes(p, rows)


def held_rows(p, rows):
    """The least readings of so many like rows: of any log, by phases, by the cascade, by balanced passes."""
    check_ways(p)
    balanced = balanced_reading(p, rows, rows)
    return (like_join(p, rows), best_reading(p, rows)[0], best_cascade(p, rows)[0], balanced)


def held_lengths(p, lengths):
    """The same of rows of these lengths; by phases and by the cascade each with its level."""
    check_ways(p)
    balanced = balanced_reading(p, len(lengths), sum(lengths))
    return (least_join(p, lengths)[0], best_placing(p, lengths)[:2], long_cascade(p, lengths), balanced)


def better_way(p, lengths):
    """Which reads less of rows of these lengths, the phases or the cascade."""
    check_ways(p)
    phases = best_placing(p, lengths)[0]
    cascade = long_cascade(p, lengths)[0]
    if phases == cascade:
        return "alike"
    return "phases" if phases < cascade else "cascade"


def first_cascade(p, most):
    """The least count, to so many, of like rows of which the cascade reads less than the phases, or None."""
    check_ways(p)
    for rows in range(1, most + 1):
        if best_cascade(p, rows)[0] < best_reading(p, rows)[0]:
            return rows
    return None
