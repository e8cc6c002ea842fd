"""Stage 8: rows laid as they come, without their count being known."""

from fewreels.laying import reading_of
from fewreels.levels import check_ways, first_counts, next_counts
from fewreels.numbers import numbers_of


def lacks_of(counts, came):
    """How many rows each reel lacks of the level's counts."""
    return [count - many for count, many in zip(counts, came)]


def level_for_next(level, counts, came):
    """The level by which the next row is laid, with its counts."""
    if max(lacks_of(counts, came)) > 0:
        return (level, counts)
    return (level + 1, next_counts(counts))


def reel_by(counts, came):
    """The first of the reels that lack most."""
    lacks = lacks_of(counts, came)
    return lacks.index(max(lacks))


def come_to(p, rows):
    """Behind so many rows the level, its counts, and how many rows each reel has."""
    level = 0
    counts = first_counts(p)
    came = [0] * p
    for row in range(rows):
        level, counts = level_for_next(level, counts, came)
        came[reel_by(counts, came)] += 1
    return (level, counts, came)


def reel_for(p, rows):
    """The number of the reel to which the next row goes behind so many."""
    check_ways(p)
    level, counts, came = come_to(p, rows)
    level, counts = level_for_next(level, counts, came)
    return reel_by(counts, came)


def came_counts(p, rows):
    """How many real rows each reel has behind so many."""
    check_ways(p)
    level, counts, came = come_to(p, rows)
    return came


def laid_as_came(counts, came):
    """The laying whose idle rows are read ahead of the real ones on each reel."""
    return tuple([(False,) * lack + (True,) * many for lack, many in zip(lacks_of(counts, came), came)])


def came_laying(p, rows):
    """The laying of so many rows, what each reel lacks being made up by idle ones."""
    check_ways(p)
    level, counts, came = come_to(p, rows)
    return laid_as_came(counts, came)


def came_reading(p, rows):
    """How much the laying of so many rows reads."""
    check_ways(p)
    level, counts, came = come_to(p, rows)
    return reading_of(numbers_of(p, level), laid_as_came(counts, came))
