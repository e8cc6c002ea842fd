"""Stage 7: where rows of told lengths are best placed."""

from fewreels.errors import TooFew
from fewreels.levels import check_ways, level_total
from fewreels.numbers import least_places, level_numbers, next_numbers, numbers_told, places_in
from fewreels.wholes import is_listed, is_place, is_tuple_of, is_whole


def is_spot(numbers, pair):
    """Whether it is a pair (reel, place) of these numbers."""
    if not is_tuple_of(pair, 2):
        return False
    reel, place = pair
    return is_place(reel, len(numbers)) and is_place(place, len(numbers[reel]))


def is_placing(numbers, rows, placing):
    """Whether it places so many rows, each at a place of its own."""
    if not is_listed(placing) or len(placing) != rows:
        return False
    if not all([is_spot(numbers, pair) for pair in placing]):
        return False
    return len(set(placing)) == rows


def reading_by(numbers, lengths, placing):
    """All lengths together, each times the number of its row's place."""
    return sum([length * numbers[reel][place] for length, (reel, place) in zip(lengths, placing)])


def least_by(numbers, lengths):
    """The least reading of rows at places of these numbers, and a placing that has it."""
    longest_first = sorted([(-length, row) for row, length in enumerate(lengths)])
    placing = [None] * len(lengths)
    for (length, row), (number, reel, place) in zip(longest_first, least_places(numbers, len(lengths))):
        placing[row] = (reel, place)
    return (reading_by(numbers, lengths, placing), placing)


def placing_reading(p, n, lengths, placing):
    """How much a placing at level n reads."""
    return reading_by(level_numbers(p, n), lengths, placing)


def placing_holds(p, n, lengths, placing):
    """Whether it is a placing of the rows at level n."""
    return is_placing(level_numbers(p, n), len(lengths), placing)


def least_placing(p, n, lengths):
    """The least reading of the rows at level n, and a placing that has it."""
    if level_total(p, n) < len(lengths):
        raise TooFew("the level has fewer places than rows are")
    return least_by(level_numbers(p, n), lengths)


def best_by(levels, lengths):
    """The least reading over levels of these numbers, the first of them that has it, and a placing."""
    best = None
    for n, numbers in enumerate(levels):
        if places_in(numbers) >= len(lengths):
            reading, placing = least_by(numbers, lengths)
            if best is None or reading < best[0]:
                best = (reading, n, placing)
    return best


def best_placing(p, lengths):
    """The least reading over all levels that can be told, the first of them that has it, and a placing."""
    check_ways(p)
    return best_by(numbers_told(p, next_numbers), lengths)


def placing_right(p, lengths, told):
    """Whether these are the least reading, the first level that has it, and a placing that reads so little."""
    check_ways(p)
    if not is_tuple_of(told, 3):
        return False
    reading, level, placing = told
    if not is_whole(reading) or not is_whole(level) or (reading, level) != best_placing(p, lengths)[:2]:
        return False
    numbers = level_numbers(p, level)
    return is_placing(numbers, len(lengths), placing) and reading_by(numbers, lengths, placing) == reading
