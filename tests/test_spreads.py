"""[14]: fewreels.spreads."""

import collections
import time
import unittest

from cases import NO_LEVELS, NO_WAYS, WAYS, counts_by_hand, last_told, numbers_by_hand, spread_by_hand
from fewreels.errors import NoLevel, NoWays
from fewreels.spreads import spread_of

SOME_LEVELS = tuple(range(50)) + tuple(range(50, 300, 11)) + (299, 300)


class Spread(unittest.TestCase):
    def test_first_levels(self):
        self.assertEqual([spread_of(2, n) for n in range(5)],
                         [((0, 1),), ((1, 2),), ((1, 1), (2, 2)), ((2, 3), (3, 2)), ((2, 1), (3, 5), (4, 2))])
        self.assertEqual([spread_of(3, n) for n in range(4)],
                         [((0, 1),), ((1, 3),), ((1, 2), (2, 3)), ((1, 1), (2, 5), (3, 3))])
        self.assertEqual([spread_of(7, n) for n in range(3)], [((0, 1),), ((1, 7),), ((1, 6), (2, 7))])

    def test_counted_from_the_numbers(self):
        for p in WAYS:
            for n in range(last_told(p) + 1):
                many = collections.Counter(number for reel in numbers_by_hand(p, n) for number in reel)
                self.assertEqual(spread_of(p, n), tuple(sorted(many.items())))

    def test_far_levels_by_another_way(self):
        for p in WAYS:
            for n in SOME_LEVELS:
                self.assertEqual(spread_of(p, n), spread_by_hand(p, n))

    def test_its_total_its_greatest_and_its_least(self):
        for p in WAYS:
            for n in SOME_LEVELS:
                spread = spread_of(p, n)
                self.assertEqual(sum(many for _, many in spread), sum(counts_by_hand(p, n)))
                self.assertEqual(spread[-1][0], n)
                self.assertEqual(spread[0][0], (n + p - 1) // p)

    def test_kinds(self):
        for p in WAYS:
            for n in (0, 1, 9, 100, 300):
                spread = spread_of(p, n)
                self.assertIs(spread.__class__, tuple)
                for pair in spread:
                    self.assertIs(pair.__class__, tuple)
                    self.assertEqual([each.__class__ for each in pair], [int, int])
                    self.assertGreater(pair[1], 0)
                numbers = [number for number, _ in spread]
                self.assertTrue(all(ahead < behind for ahead, behind in zip(numbers, numbers[1:])))

    def test_soon_told(self):
        start = time.perf_counter()
        for p in WAYS:
            spread_of(p, 300)
        self.assertLess(time.perf_counter() - start, 5)


class Refused(unittest.TestCase):
    def test_no_ways(self):
        for p in NO_WAYS:
            for n in (0, 1, 300) + NO_LEVELS:
                with self.assertRaises(NoWays):
                    spread_of(p, n)

    def test_no_level(self):
        for p in WAYS:
            for n in NO_LEVELS:
                with self.assertRaises(NoLevel):
                    spread_of(p, n)

    def test_asked_again_the_same(self):
        for p in WAYS:
            self.assertEqual(spread_of(p, 40), spread_of(p, 40))


if __name__ == "__main__":
    unittest.main()
