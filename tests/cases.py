"""What several tests need: the ways there are, what is none, and levels reckoned by hand."""

import functools

FAR = 10 ** 60 - 1
WAYS = (2, 3, 4, 5, 6, 7)
NO_NUMBERS = (True, False, None, "", "2", "3", "x", [], [2], [2, 3], (), (2,), (3, 3), {}, {2: 3}, b"", b"2", {2}, int,
              len, range(3), object())
NO_WAYS = (1, 8, 0, -1, -2, -7, 9, 100, FAR, -FAR, 10 ** 5000, -10 ** 5000) + NO_NUMBERS
NO_LEVELS = (-1, 301, 302, -2, -300, 1000, FAR, -FAR, 10 ** 5000, -10 ** 5000) + NO_NUMBERS


def counts_by_hand(p, n):
    """The counts of level n, by p sequences that are gone through one number at a time."""
    # Reel k of a level is the sum of the greatest counts of the p + 1 - k levels ahead.
    greatest = [0] * (p - 1) + [1]
    for _ in range(n):
        greatest.append(sum(greatest[-p:]))
    if n == 0:
        return (1,) + (0,) * (p - 1)
    ahead = greatest[:-1]
    return tuple(sum(ahead[len(ahead) - p + k:]) for k in range(p))


def last_told(p):
    """The greatest level of at most 4000 places."""
    n = 0
    while sum(counts_by_hand(p, n + 1)) <= 4000:
        n += 1
    return n


@functools.lru_cache(maxsize=None)
def numbers_by_hand(p, n):
    """The numbers of level n, straight from the words of [13]."""
    if n == 0:
        return ((0,),) + ((),) * (p - 1)
    ahead = numbers_by_hand(p, n - 1)
    first = tuple(number + 1 for number in ahead[0])
    return tuple(first + ahead[k + 1] for k in range(p - 1)) + (first,)


@functools.lru_cache(maxsize=None)
def first_spread(p, n):
    """How many places of the first reel have each number by level n."""
    if n <= 0:
        return {0: 1} if n == 0 else {}
    spread = {}
    for back in range(1, p + 1):
        for number, many in first_spread(p, n - back).items():
            spread[number + 1] = spread.get(number + 1, 0) + many
    return spread


@functools.lru_cache(maxsize=None)
def spread_by_hand(p, n):
    """The spread of level n, from those of the first reels of the p levels ahead."""
    if n == 0:
        return ((0, 1),)
    spread = {}
    for back in range(1, p + 1):
        # The first reel of the level so far ahead is on all reels by now but the last ones.
        for number, many in first_spread(p, n - back).items():
            spread[number + 1] = spread.get(number + 1, 0) + many * (p + 1 - back)
    return tuple(sorted(spread.items()))


def least_of(spread, rows):
    """So many of a spread's least numbers together, None where it has fewer."""
    reading = 0
    for number, many in spread:
        if rows <= many:
            return reading + rows * number
        reading += many * number
        rows -= many
    return None


def best_of(spreads, rows):
    """The least reading over levels of these spreads, and all levels that have it."""
    readings = {n: least_of(spread, rows) for n, spread in enumerate(spreads)}
    best = min(reading for reading in readings.values() if reading is not None)
    return best, [n for n, reading in readings.items() if reading == best]


def least_by_hand(p, n, rows):
    """The least reading of so many rows of level n, None where its total is less."""
    return least_of(spread_by_hand(p, n), rows)


def best_by_hand(p, rows):
    """The least reading over levels 0 to 300, and all levels that have it."""
    return best_of([spread_by_hand(p, n) for n in range(301)], rows)


NO_STANDINGS = (
    (1, 0), (0, 1), (0,), (1,), (),
    (1, 0, 0, 0, 0, 0, 0, 0, 0), (0,) * 8 + (5,), (1, 0) * 6,
    (1, 1, 1), (5, 3, 2, 1), (1,) * 8, (10 ** 60,) * 3,
    (0, 0, 0), (0,) * 8, (0, 0, 0, 0),
    (-1, 0, 1), (0, 1, -1), (0, -1, 0), (3, 0, -FAR), (0, 1, -10 ** 5000),
    (10 ** 60 + 1, 0, 0), (0, 0, 10 ** 60 + 1), (1, 0, 10 ** 61), (0, 1, 10 ** 5000),
    (True, 0, 0), (0, True, 2), (0, 1, False), (False, 1, 2), (False, True, False), (1, 0, 0, 0, 0, 0, 0, True),
    (None, 0, 1), (0, 1, None), (None, None, None), ("1", 0, 1), (0, 1, "0"), ((1,), 0, 1), (0, 1, [0]), (0, 1, b"0"),
    [1, 0, 0], [0, 1, 2], [3, 2, 0, 0], {1: 0, 2: 1, 3: 0}, {0, 1, 2}, range(3), "100", "", b"100", b"\x00\x01\x02",
    None, True, False, 0, 1, 3, -1, FAR, 10 ** 5000, int, len, object(),
)


def lists_in(thing):
    """All lists in it, itself too, however deep they lie."""
    if not isinstance(thing, (list, tuple)):
        return []
    inside = [each for part in thing for each in lists_in(part)]
    return [thing] + inside if isinstance(thing, list) else inside
