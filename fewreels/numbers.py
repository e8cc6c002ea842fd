"""Stage 5: how often the row at each place of a level is read."""

from fewreels.errors import TooMany
from fewreels.levels import level_total

MOST_PLACES = 4000


def check_total(total):
    """Refuse more places in all than numbers are told of."""
    if total > MOST_PLACES:
        raise TooMany(f"numbers are told of at most {MOST_PLACES} places")


def check_places(p, n):
    """Refuse a level of more places than numbers are told of."""
    check_total(level_total(p, n))


def first_numbers(p):
    """The numbers of level 0."""
    return tuple([(0,)] + [()] * (p - 1))


def next_numbers(numbers):
    """The numbers of the level behind the one that has these."""
    first = tuple([number + 1 for number in numbers[0]])
    return tuple([first + reel for reel in numbers[1:]] + [first])


def numbers_after(p, n, following):
    """The numbers of level n, each level's being what this function makes of those ahead."""
    numbers = first_numbers(p)
    for level in range(n):
        numbers = following(numbers)
    return numbers


def numbers_of(p, n):
    """The numbers of level n, however many its places are."""
    return numbers_after(p, n, next_numbers)


def places_in(numbers):
    """How many places have these numbers."""
    return sum([len(on_reel) for on_reel in numbers])


def numbers_told(p, following):
    """The numbers of every level, from 0, of at most so many places as numbers are told of."""
    told = []
    numbers = first_numbers(p)
    while places_in(numbers) <= MOST_PLACES:
        told.append(numbers)
        numbers = following(numbers)
    return told


def level_numbers(p, n):
    """For each reel the numbers of its places by level n, the first read first."""
    check_places(p, n)
    return numbers_of(p, n)


def least_places(numbers, many):
    """So many places of the least numbers, as (number, reel, place), the least first."""
    places = [(number, reel, place) for reel, on_reel in enumerate(numbers) for place, number in enumerate(on_reel)]
    return sorted(places)[:many]
