"""Stage 5: how often the row at each place of a level is read."""

from fewreels.errors import TooMany
from fewreels.levels import level_total

MOST_PLACES = 4000


def check_places(p, n):
    """Refuse a level of more places than numbers are told of."""
    if level_total(p, n) > MOST_PLACES:
        raise TooMany(f"numbers are told of at most {MOST_PLACES} places")


def next_numbers(numbers):
    """The numbers of the level behind the one that has these."""
    first = tuple([number + 1 for number in numbers[0]])
    return tuple([first + reel for reel in numbers[1:]] + [first])


def numbers_of(p, n):
    """The numbers of level n, however many its places are."""
    numbers = tuple([(0,)] + [()] * (p - 1))
    for level in range(n):
        numbers = next_numbers(numbers)
    return numbers


def level_numbers(p, n):
    """For each reel the numbers of its places by level n, the first read first."""
    check_places(p, n)
    return numbers_of(p, n)


def least_places(numbers, many):
    """So many places of the least numbers, as (number, reel, place), the least first."""
    places = [(number, reel, place) for reel, on_reel in enumerate(numbers) for place, number in enumerate(on_reel)]
    return sorted(places)[:many]
