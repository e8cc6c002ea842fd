"""Stage 6: the least reading of so many rows over all levels."""

from fewreels.errors import TooMany
from fewreels.laying import is_laying, real_rows, reading_of
from fewreels.levels import LAST_LEVEL, check_ways
from fewreels.numbers import least_places, level_numbers, numbers_of
from fewreels.spreads import first_spreads, least_of_spread, next_spreads, spread_over
from fewreels.wholes import is_tuple_of, is_whole

MOST_LAID = 400


def best_over(p, rows, last, following):
    """The least reading of so many rows over levels 0 to the last, and the first level that has it."""
    best = None
    spreads = first_spreads(p)
    for n in range(last + 1):
        spread = spread_over(spreads)
        least = spread[0][0]
        # The least number never falls from level to level: no level from here on reads less.
        if best is not None and rows * least >= best[0]:
            return best
        reading = least_of_spread(spread, rows)
        if reading is not None and (best is None or reading < best[0]):
            best = (reading, n)
        spreads = following(spreads)
    return best


def best_reading(p, rows):
    """The least that any laying of so many rows reads, and the first level of which one does."""
    check_ways(p)
    return best_over(p, rows, LAST_LEVEL, next_spreads)


def laid_least(numbers, rows):
    """The laying of so many rows at places of the least numbers."""
    laying = [[False] * len(on_reel) for on_reel in numbers]
    for number, reel, place in least_places(numbers, rows):
        laying[reel][place] = True
    return tuple([tuple(on_reel) for on_reel in laying])


def best_laying(p, rows):
    """The least reading, the first level that has it, and a laying of it that reads so little."""
    check_ways(p)
    if rows > MOST_LAID:
        raise TooMany(f"a laying is told of at most {MOST_LAID} rows")
    reading, level = best_reading(p, rows)
    return (reading, level, laid_least(level_numbers(p, level), rows))


def best_right(p, rows, told):
    """Whether these are the least reading, the first level that has it, and a laying that reads so little."""
    check_ways(p)
    if not is_tuple_of(told, 3):
        return False
    reading, level, laying = told
    if not is_whole(reading) or not is_whole(level) or (reading, level) != best_reading(p, rows):
        return False
    if not is_laying(p, level, laying) or real_rows(laying) != rows:
        return False
    # A judge doesn't refuse: for somewhat more rows the best level may have too many places for level_numbers.
    return reading_of(numbers_of(p, level), laying) == reading
