"""Stage 6: where real rows lie by a level, and what is read of them."""

from fewreels.errors import TooFew
from fewreels.levels import level_counts
from fewreels.numbers import check_places, level_numbers
from fewreels.spreads import least_of_spread, spread_of
from fewreels.wholes import is_tuple_of


def fits_reel(on_reel, count):
    """Whether it is a tuple of so many truths."""
    return is_tuple_of(on_reel, count) and all([isinstance(real, bool) for real in on_reel])


def real_rows(laying):
    """How many real rows a laying has."""
    return sum([on_reel.count(True) for on_reel in laying])


def is_laying(p, n, laying):
    """Whether it is a laying of level n, however many places that has."""
    if not is_tuple_of(laying, p):
        return False
    if not all([fits_reel(on_reel, count) for on_reel, count in zip(laying, level_counts(p, n))]):
        return False
    return real_rows(laying) > 0


def reading_of(numbers, laying):
    """The numbers of all real rows together."""
    return sum([number for on_reel, reals in zip(numbers, laying) for number, real in zip(on_reel, reals) if real])


def laying_holds(p, n, laying):
    """Whether it is a laying of level n."""
    check_places(p, n)
    return is_laying(p, n, laying)


def laying_reading(p, n, laying):
    """How much a laying of level n reads."""
    return reading_of(level_numbers(p, n), laying)


def least_reading(p, n, rows):
    """The least that any laying of so many rows of level n reads."""
    reading = least_of_spread(spread_of(p, n), rows)
    if reading is None:
        raise TooFew("the level has fewer places than rows are")
    return reading
