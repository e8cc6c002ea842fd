"""[15]: fewreels.laying."""

import itertools
import random
import time
import unittest

from cases import (FAR, NO_LEVELS, NO_WAYS, WAYS, counts_by_hand, last_told, least_by_hand, numbers_by_hand,
                   spread_by_hand)
from fewreels.errors import NoLevel, NoWays, TooFew, TooMany
from fewreels.laying import laying_holds, laying_reading, least_reading


def full(p, n, real=True):
    return tuple((real,) * count for count in counts_by_hand(p, n))


def some_laying(seed, p, n):
    """Real rows at places by chance, at the first place in any case."""
    chance = random.Random(seed)
    laying = [[chance.random() < 0.4 for _ in range(count)] for count in counts_by_hand(p, n)]
    laying[0][0] = True
    return tuple(tuple(reel) for reel in laying)


def all_layings(p, n):
    """Every way to lay real and idle rows, none real too."""
    counts = counts_by_hand(p, n)
    for truths in itertools.product((False, True), repeat=sum(counts)):
        laying, at = [], 0
        for count in counts:
            laying.append(truths[at:at + count])
            at += count
        yield tuple(laying)


def read_by_hand(p, n, laying):
    total = 0
    for reel, numbers in enumerate(numbers_by_hand(p, n)):
        for place, number in enumerate(numbers):
            if laying[reel][place]:
                total += number
    return total


class Holds(unittest.TestCase):
    def test_plain(self):
        self.assertIs(laying_holds(2, 0, ((True,), ())), True)
        self.assertIs(laying_holds(2, 2, ((True, False), (False,))), True)
        self.assertIs(laying_holds(2, 2, ((False, False), (True,))), True)
        self.assertIs(laying_holds(3, 2, ((True, True), (True, True), (True,))), True)
        self.assertIs(laying_holds(3, 2, ((True, True), (True,), (True, True))), False)

    def test_each_told_level(self):
        for p in WAYS:
            for n in range(last_told(p) + 1):
                self.assertIs(laying_holds(p, n, full(p, n)), True)
                self.assertIs(laying_holds(p, n, some_laying(n, p, n)), True)

    def test_no_real_row(self):
        for p in WAYS:
            for n in (0, 1, 4, last_told(p)):
                self.assertIs(laying_holds(p, n, full(p, n, False)), False)

    def test_one_real_row_anywhere(self):
        for p in WAYS:
            counts = counts_by_hand(p, 3)
            for reel, count in enumerate(counts):
                for place in range(count):
                    laying = [[False] * each for each in counts]
                    laying[reel][place] = True
                    self.assertIs(laying_holds(p, 3, tuple(tuple(each) for each in laying)), True)

    def test_a_reel_more_or_less(self):
        for p in WAYS:
            for n in (0, 1, 2, 5, last_told(p)):
                laying = full(p, n)
                for other in (laying + ((),), laying + ((True,),), ((),) + laying, laying[:-1], laying[1:], (),
                              laying + laying, laying + (laying[0],)):
                    self.assertIs(laying_holds(p, n, other), False)

    def test_a_place_more_or_less(self):
        for p in WAYS:
            for n in (0, 1, 2, 5, last_told(p)):
                laying = full(p, n)
                for reel in range(p):
                    for real in (True, False):
                        more = laying[:reel] + (laying[reel] + (real,),) + laying[reel + 1:]
                        self.assertIs(laying_holds(p, n, more), False)
                    if laying[reel]:
                        fewer = laying[:reel] + (laying[reel][1:],) + laying[reel + 1:]
                        self.assertIs(laying_holds(p, n, fewer), False)
                moved = (laying[0][1:], laying[1] + (True,)) + laying[2:]
                self.assertIs(laying_holds(p, n, moved), tuple(len(reel) for reel in moved) == counts_by_hand(p, n))

    def test_of_another_level(self):
        for p in WAYS:
            for n in range(8):
                for other in range(8):
                    self.assertIs(laying_holds(p, n, full(p, other)), n == other)

    def test_whole_numbers_are_no_truths(self):
        for laying in (((1,), ()), ((0,), ()), ((5,), ()), ((FAR,), ())):
            self.assertIs(laying_holds(2, 0, laying), False)
        for laying in (((True, 0), (False,)), ((True, False), (1,)), ((1, 1), (1,)), ((1, False), (True,))):
            self.assertIs(laying_holds(2, 2, laying), False)
        for laying in ((True, False), (1, 2), (True, ()), ((True,), 0)):
            self.assertIs(laying_holds(2, 0, laying), False)

    def test_a_list_is_no_tuple(self):
        for laying in ([(True, False), (True,)], ([True, False], (True,)), ((True, False), [True])):
            self.assertIs(laying_holds(2, 2, laying), False)

    def test_every_small_laying(self):
        for p, n in ((2, 0), (2, 1), (2, 2), (2, 3), (2, 4), (3, 1), (3, 2), (4, 2), (7, 1)):
            for laying in all_layings(p, n):
                self.assertIs(laying_holds(p, n, laying), any(map(any, laying)))


class Reading(unittest.TestCase):
    def test_plain(self):
        self.assertEqual(laying_reading(2, 0, ((True,), ())), 0)
        self.assertEqual(laying_reading(2, 2, ((True, False), (False,))), 2)
        self.assertEqual(laying_reading(2, 2, ((False, True), (False,))), 1)
        self.assertEqual(laying_reading(2, 2, ((True, True), (True,))), 5)
        self.assertEqual(laying_reading(3, 3, ((False, False, False, True), (True, False, False), (False, True))), 6)

    def test_each_told_level(self):
        for p in WAYS:
            for n in range(last_told(p) + 1):
                for laying in (full(p, n), some_laying(n, p, n), some_laying(n + 100, p, n)):
                    told = laying_reading(p, n, laying)
                    self.assertIs(told.__class__, int)
                    self.assertEqual(told, read_by_hand(p, n, laying))
                self.assertEqual(laying_reading(p, n, full(p, n)),
                                 sum(number * many for number, many in spread_by_hand(p, n)))


class Least(unittest.TestCase):
    def test_plain(self):
        self.assertEqual([least_reading(2, 3, rows) for rows in range(1, 6)], [2, 4, 6, 9, 12])
        self.assertEqual([least_reading(3, 3, rows) for rows in range(1, 10)], [1, 3, 5, 7, 9, 11, 14, 17, 20])
        self.assertEqual(least_reading(2, 0, 1), 0)

    def test_against_all_layings(self):
        for p, n in ((2, 0), (2, 1), (2, 2), (2, 3), (2, 4), (3, 1), (3, 2), (3, 3), (4, 2), (7, 1)):
            least = {}
            for laying in all_layings(p, n):
                rows = sum(map(sum, laying))
                reading = read_by_hand(p, n, laying)
                least[rows] = min(reading, least.get(rows, reading))
            for rows in range(1, max(least) + 1):
                self.assertEqual(least_reading(p, n, rows), least[rows])

    def test_few_and_all_of_each_told_level(self):
        for p in WAYS:
            for n in range(last_told(p) + 1):
                numbers = sorted(number for reel in numbers_by_hand(p, n) for number in reel)
                for rows in {1, 2, 3, 7, 50, len(numbers) // 2, len(numbers) - 1, len(numbers)}:
                    if 1 <= rows <= len(numbers):
                        told = least_reading(p, n, rows)
                        self.assertIs(told.__class__, int)
                        self.assertEqual(told, sum(numbers[:rows]))

    def test_of_far_levels(self):
        for p in WAYS:
            for n in (60, 61, 99, 100, 150, 299, 300):
                for rows in (1, 2, 43, 44, 45, 1000, 10 ** 6, 10 ** 12 - 1, 10 ** 12):
                    self.assertEqual(least_reading(p, n, rows), least_by_hand(p, n, rows))

    def test_too_few(self):
        for p in WAYS:
            for n in range(30):
                total = sum(counts_by_hand(p, n))
                self.assertEqual(least_reading(p, n, total), least_by_hand(p, n, total))
                for rows in (total + 1, total + 2, 10 ** 12):
                    with self.assertRaises(TooFew):
                        least_reading(p, n, rows)

    def test_soon_told(self):
        start = time.perf_counter()
        for p in WAYS:
            least_reading(p, 300, 10 ** 12)
            laying_reading(p, last_told(p), full(p, last_told(p)))
            laying_holds(p, last_told(p), full(p, last_told(p)))
        self.assertLess(time.perf_counter() - start, 5)


class Refused(unittest.TestCase):
    def test_no_ways(self):
        for p in NO_WAYS:
            for n in (0, 2, 17, 300) + NO_LEVELS:
                for laying in (((True,), ()), (), None):
                    with self.assertRaises(NoWays):
                        laying_holds(p, n, laying)
                    with self.assertRaises(NoWays):
                        laying_reading(p, n, laying)
                for rows in (1, 10 ** 12):
                    with self.assertRaises(NoWays):
                        least_reading(p, n, rows)

    def test_no_level(self):
        for p in WAYS:
            for n in NO_LEVELS:
                for laying in (((True,), ()), (), None):
                    with self.assertRaises(NoLevel):
                        laying_holds(p, n, laying)
                    with self.assertRaises(NoLevel):
                        laying_reading(p, n, laying)
                for rows in (1, 10 ** 12):
                    with self.assertRaises(NoLevel):
                        least_reading(p, n, rows)

    def test_too_many_places(self):
        for p in WAYS:
            n = last_told(p) + 1
            for laying in (full(p, n), full(p, n, False), full(p, 1), ((True,), ()), ()):
                for level in (n, n + 1, 300):
                    with self.assertRaises(TooMany):
                        laying_holds(p, level, laying)
                    with self.assertRaises(TooMany):
                        laying_reading(p, level, laying)
            self.assertGreater(least_reading(p, n, 1), 0)

    def test_what_is_handed_in_stays(self):
        laying = ([True, False], [True])
        self.assertIs(laying_holds(2, 2, laying), False)
        self.assertEqual(laying, ([True, False], [True]))


if __name__ == "__main__":
    unittest.main()
