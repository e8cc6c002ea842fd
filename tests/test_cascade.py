"""[24] and [25]: fewreels.cascade."""

import collections
import copy
import functools
import itertools
import random
import time
import unittest

from cases import FAR, NO_NUMBERS, NO_WAYS, WAYS, best_of
from fewreels.best import best_reading
from fewreels.cascade import best_cascade, cascade_counts, cascade_numbers, cascade_spread, long_cascade
from fewreels.errors import NoLevel, NoWays, TooMany
from fewreels.lengths import best_placing
from fewreels.levels import level_counts
from fewreels.numbers import level_numbers
from fewreels.spreads import spread_of

MOST = 10 ** 12
NO_CASCADE_LEVELS = (-1, 101, 102, -2, -100, 300, 301, FAR, -FAR, 10 ** 5000, -10 ** 5000) + NO_NUMBERS


@functools.lru_cache(maxsize=None)
def counts_by_words(p, n):
    """The counts, straight from the words of [24]."""
    if n == 0:
        return (1,) + (0,) * (p - 1)
    ahead = counts_by_words(p, n - 1)
    return tuple(sum(ahead[:p - k]) for k in range(p))


def last_cascade(p):
    """The greatest level of at most 4000 places."""
    n = 0
    while sum(counts_by_words(p, n + 1)) <= 4000:
        n += 1
    return n


def pass_gone_through(reels, read):
    """The reels, greatest first, behind one pass of mergings gone through one by one; the empty one isn't handed in.

    Rows are lists of the places that they are made of; how often each place's row is read is added to read.
    """
    reels = [list(reel) for reel in reels]
    out = []
    written = []
    # All reels first, then one fewer each time, at last the first two.
    for many in range(len(reels), 1, -1):
        while reels[many - 1]:
            row = []
            for reel in reels[:many]:
                row += reel.pop(0)
            for place in row:
                read[place] += 1
            out.append(row)
        written.append(out)
        out = reels[many - 1]
    return written + [reels[0]]


def cascade_gone_through(p, n):
    """How often the row at each place is read, and the counts on the reels behind each pass, till one row is left."""
    reels = [[[(reel, place)] for place in range(count)] for reel, count in enumerate(counts_by_words(p, n))]
    read = collections.Counter()
    seen = []
    for _ in range(n):
        reels = pass_gone_through(reels, read)
        seen.append(tuple(len(reel) for reel in reels))
    (row,) = [row for reel in reels for row in reel]
    return read, seen, row


@functools.lru_cache(maxsize=None)
def reel_spread(p, n, k):
    """How many places of reel k, from 1, have each number by level n, straight from the words of [25]."""
    if n == 0:
        return {0: 1} if k == 1 else {}
    spread = collections.Counter()
    for ahead in range(1, p + 2 - k):
        more = 0 if k == 1 and ahead == p else 1
        for number, many in reel_spread(p, n - 1, ahead).items():
            spread[number + more] += many
    return dict(spread)


@functools.lru_cache(maxsize=None)
def spread_by_words(p, n):
    spread = collections.Counter()
    for k in range(1, p + 1):
        spread.update(reel_spread(p, n, k))
    return tuple(sorted(spread.items()))


def best_by_words(p, rows):
    """The least reading over levels 0 to 100, and all levels that have it."""
    return best_of([spread_by_words(p, n) for n in range(101)], rows)


def least_numbers(p, n, many):
    """So many of the least numbers of level n, the least first."""
    numbers = [number for number, places in spread_by_words(p, n) for _ in range(min(places, many))]
    return numbers[:many]


def long_by_words(p, lengths):
    """The least reading over the levels of at most 4000 places, and all levels that have it."""
    readings = {}
    for n in range(last_cascade(p) + 1):
        if sum(counts_by_words(p, n)) >= len(lengths):
            numbers = least_numbers(p, n, len(lengths))
            readings[n] = sum(length * number for length, number in zip(sorted(lengths, reverse=True), numbers))
    best = min(readings.values())
    return best, [n for n, reading in readings.items() if reading == best]


class Counts(unittest.TestCase):
    def test_plain(self):
        self.assertEqual([cascade_counts(3, n) for n in range(5)],
                         [(1, 0, 0), (1, 1, 1), (3, 2, 1), (6, 5, 3), (14, 11, 6)])
        self.assertEqual(cascade_counts(7, 1), (1,) * 7)
        self.assertEqual(cascade_counts(7, 2), (7, 6, 5, 4, 3, 2, 1))

    def test_by_the_words(self):
        for p in WAYS:
            for n in range(101):
                self.assertEqual(cascade_counts(p, n), counts_by_words(p, n))

    def test_passes_gone_through(self):
        for p in WAYS:
            for n in range(last_cascade(p) + 1):
                read, seen, row = cascade_gone_through(p, n)
                self.assertEqual(seen, [cascade_counts(p, level) for level in range(n - 1, -1, -1)])
                self.assertEqual(len(row), sum(cascade_counts(p, n)))

    def test_of_two_ways_as_the_phases(self):
        for n in range(101):
            self.assertEqual(cascade_counts(2, n), level_counts(2, n))


class Numbers(unittest.TestCase):
    def test_plain(self):
        self.assertEqual(cascade_numbers(3, 0), ((0,), (), ()))
        self.assertEqual(cascade_numbers(3, 1), ((1,), (1,), (1,)))
        self.assertEqual(cascade_numbers(3, 2), ((2, 2, 1), (2, 2), (2,)))
        self.assertEqual(cascade_numbers(3, 3), ((3, 3, 2, 3, 3, 2), (3, 3, 2, 3, 3), (3, 3, 2)))

    def test_passes_gone_through(self):
        for p in WAYS:
            for n in range(last_cascade(p) + 1):
                read, _, _ = cascade_gone_through(p, n)
                by_hand = tuple(tuple(read[reel, place] for place in range(count))
                                for reel, count in enumerate(counts_by_words(p, n)))
                self.assertEqual(cascade_numbers(p, n), by_hand)

    def test_of_two_ways_as_the_phases(self):
        for n in range(last_cascade(2) + 1):
            self.assertEqual(cascade_numbers(2, n), level_numbers(2, n))

    def test_too_many_places(self):
        self.assertEqual([sum(cascade_counts(p, last_cascade(p))) for p in WAYS], [2584, 1782, 2037, 2353, 1547, 3164])
        for p in WAYS:
            self.assertEqual(sum(map(len, cascade_numbers(p, last_cascade(p)))), sum(counts_by_words(p, last_cascade(p))))
            for n in (last_cascade(p) + 1, last_cascade(p) + 2, 50, 100):
                with self.assertRaises(TooMany):
                    cascade_numbers(p, n)

    def test_kinds(self):
        for p in WAYS:
            told = cascade_numbers(p, 3)
            self.assertIs(type(told), tuple)
            self.assertEqual([type(reel) for reel in told], [tuple] * p)
            self.assertIs(type(cascade_counts(p, 3)), tuple)


class Spreads(unittest.TestCase):
    def test_plain(self):
        self.assertEqual(cascade_spread(3, 0), ((0, 1),))
        self.assertEqual(cascade_spread(3, 2), ((1, 1), (2, 5)))
        self.assertEqual(cascade_spread(3, 3), ((2, 4), (3, 10)))

    def test_counted_from_the_numbers(self):
        for p in WAYS:
            for n in range(last_cascade(p) + 1):
                counted = collections.Counter(number for reel in cascade_numbers(p, n) for number in reel)
                self.assertEqual(cascade_spread(p, n), tuple(sorted(counted.items())))

    def test_far_beyond(self):
        for p in WAYS:
            for n in range(101):
                told = cascade_spread(p, n)
                self.assertEqual(told, spread_by_words(p, n))
                self.assertEqual(sum(many for _, many in told), sum(counts_by_words(p, n)))

    def test_the_least_number_is_one_more_each_two_levels(self):
        for p in WAYS:
            for n in range(99):
                self.assertGreaterEqual(cascade_spread(p, n + 2)[0][0], cascade_spread(p, n)[0][0] + 1)

    def test_of_two_ways_as_the_phases(self):
        for n in range(101):
            self.assertEqual(cascade_spread(2, n), spread_of(2, n))

    def test_the_last_level_within_a_few_seconds(self):
        start = time.perf_counter()
        for p in WAYS:
            cascade_spread(p, 100)
            cascade_counts(p, 100)
            cascade_numbers(p, last_cascade(p))
        self.assertLess(time.perf_counter() - start, 5)


class LikeRows(unittest.TestCase):
    def test_plain(self):
        self.assertEqual([best_cascade(3, rows) for rows in range(1, 8)],
                         [(0, 0), (2, 1), (3, 1), (7, 2), (9, 2), (11, 2), (17, 3)])
        self.assertEqual(best_cascade(7, 7), (7, 1))
        self.assertEqual(best_cascade(7, 28), (55, 2))

    def test_against_each_level(self):
        for p in WAYS:
            for rows in range(1, 401):
                best, levels = best_by_words(p, rows)
                self.assertEqual(best_cascade(p, rows), (best, levels[0]), (p, rows))

    def test_far_counts_against_each_level(self):
        for p in WAYS:
            for power in range(3, 13):
                for rows in (10 ** power - 1, 10 ** power, 7 * 10 ** power // 10, sum(counts_by_words(p, power))):
                    best, levels = best_by_words(p, rows)
                    self.assertEqual(best_cascade(p, rows), (best, levels[0]), (p, rows))

    def test_the_first_of_several_levels(self):
        for p, rows, levels in ((2, 3954, [17, 18]), (2, 16271, [20, 21]), (3, 17297, [12, 13]), (3, 718395, [17, 18]),
                                (4, 17721082, [16, 17]), (5, 659727944721, [22, 23])):
            best, found = best_by_words(p, rows)
            self.assertEqual(found, levels)
            self.assertEqual(best_cascade(p, rows), (best, levels[0]))

    def test_of_two_ways_as_the_phases(self):
        for rows in list(range(1, 200)) + [10 ** power for power in range(3, 13)]:
            self.assertEqual(best_cascade(2, rows), best_reading(2, rows))

    def test_ten_to_the_twelve_within_a_few_seconds(self):
        start = time.perf_counter()
        for p in WAYS:
            best_cascade(p, MOST)
            best_cascade(p, MOST - 1)
        self.assertLess(time.perf_counter() - start, 5)


def some_lengths(seed, many, bound):
    chance = random.Random(seed)
    return [chance.randint(0, bound) for _ in range(many)]


class LongRows(unittest.TestCase):
    def test_plain(self):
        self.assertEqual(long_cascade(3, [5]), (0, 0))
        self.assertEqual(long_cascade(3, [5, 6, 7]), (18, 1))
        self.assertEqual(long_cascade(3, [1, 2, 3, 10]), (22, 2))
        self.assertEqual(long_cascade(3, (1, 2, 3, 10)), (22, 2))

    def test_small_cases_gone_through(self):
        chance = random.Random(29)
        for p in WAYS:
            for many in range(1, 5):
                for _ in range(6):
                    lengths = [chance.choice((0, 1, 2, 5, 100)) for _ in range(many)]
                    readings = {}
                    for n in range(last_cascade(p) + 1):
                        # No more places of a number than rows are needed to go through all placings.
                        numbers = [number for number, places in spread_by_words(p, n) for _ in range(min(places, many))]
                        if len(numbers) >= many and len(numbers) <= 24:
                            readings[n] = min(sum(map(int.__mul__, lengths, placed))
                                              for placed in set(itertools.permutations(numbers, many)))
                    best = min(readings.values())
                    # The levels left out have more rows read than these: their least number times all lengths.
                    level = min(n for n, reading in readings.items() if reading == best)
                    for n in range(last_cascade(p) + 1):
                        if n not in readings and sum(counts_by_words(p, n)) >= many:
                            self.assertGreaterEqual(sum(lengths) * spread_by_words(p, n)[0][0], best)
                            self.assertGreater(n, level)
                    self.assertEqual(long_cascade(p, lengths), (best, level), (p, lengths))

    def test_against_each_level(self):
        for p in WAYS:
            for many in (1, 2, 3, 7, 20, 60, 61, 137, 199, 200):
                for bound in (1, 9, MOST):
                    lengths = some_lengths(many, many, bound)
                    best, levels = long_by_words(p, lengths)
                    self.assertEqual(long_cascade(p, lengths), (best, levels[0]))
                    self.assertEqual(long_cascade(p, tuple(lengths)), (best, levels[0]))

    def test_lengths_of_none(self):
        for p in WAYS:
            for many in (1, 2, 5, 29, 200):
                level = min(n for n in range(30) if sum(counts_by_words(p, n)) >= many)
                self.assertEqual(long_cascade(p, [0] * many), (0, level))

    def test_the_first_of_several_levels(self):
        several = 0
        for p in WAYS:
            for many in range(1, 12):
                lengths = [9] + [0] * (many - 1)
                best, levels = long_by_words(p, lengths)
                several += len(levels) > 1
                self.assertEqual(long_cascade(p, lengths), (best, levels[0]))
        self.assertGreater(several, 5)

    def test_like_rows(self):
        for p in WAYS:
            for rows in (1, 2, 3, 10, 57, 200):
                reading, level = best_cascade(p, rows)
                if level <= last_cascade(p):
                    self.assertEqual(long_cascade(p, [7] * rows), (7 * reading, level))

    def test_of_two_ways_as_the_phases(self):
        for many in (1, 2, 3, 10, 57, 200):
            lengths = some_lengths(many, many, 50)
            self.assertEqual(long_cascade(2, lengths), best_placing(2, lengths)[:2])

    def test_the_order_of_lengths_is_nothing(self):
        for p in WAYS:
            lengths = some_lengths(5, 40, 99)
            self.assertEqual(long_cascade(p, sorted(lengths)), long_cascade(p, sorted(lengths, reverse=True)))

    def test_two_hundred_within_a_few_seconds(self):
        start = time.perf_counter()
        for p in WAYS:
            for lengths in ([MOST] * 200, [0] * 200, some_lengths(1, 200, MOST)):
                long_cascade(p, lengths)
        self.assertLess(time.perf_counter() - start, 5)


class Refused(unittest.TestCase):
    def test_no_ways(self):
        for p in NO_WAYS:
            for ask in (cascade_counts, cascade_numbers, cascade_spread):
                for n in (0, 5, 100) + NO_CASCADE_LEVELS:
                    with self.assertRaises(NoWays):
                        ask(p, n)
            with self.assertRaises(NoWays):
                best_cascade(p, 5)
            with self.assertRaises(NoWays):
                long_cascade(p, [5, 6])

    def test_no_level(self):
        for p in WAYS:
            for ask in (cascade_counts, cascade_numbers, cascade_spread):
                for n in NO_CASCADE_LEVELS:
                    with self.assertRaises(NoLevel):
                        ask(p, n)

    def test_level_one_hundred_is_let(self):
        for p in WAYS:
            self.assertEqual(len(cascade_counts(p, 100)), p)
            self.assertEqual(cascade_spread(p, 100)[-1][0], 100)


class Own(unittest.TestCase):
    def test_what_is_handed_in_stays(self):
        for many in (1, 5, 200):
            lengths = some_lengths(many, many, 99)
            kept = copy.deepcopy(lengths)
            told = long_cascade(3, lengths)
            self.assertEqual(lengths, kept)
            self.assertEqual(long_cascade(3, lengths), told)

    def test_kinds(self):
        for told in (best_cascade(3, 9), long_cascade(3, [1, 2, 3])):
            self.assertIs(type(told), tuple)
            self.assertEqual([type(each) for each in told], [int, int])
        self.assertIs(type(cascade_spread(3, 4)), tuple)
        self.assertEqual({type(pair) for pair in cascade_spread(3, 4)}, {tuple})


if __name__ == "__main__":
    unittest.main()
