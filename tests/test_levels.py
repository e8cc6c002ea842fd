"""[5] and [10]: fewreels.levels."""

import unittest

from cases import FAR, NO_LEVELS, NO_WAYS, WAYS, counts_by_hand
from fewreels.errors import NoLevel, NoWays, TooFew, TooMany
from fewreels.levels import level_counts, level_of, level_total

FIRST = {
    2: [(1, 0), (1, 1), (2, 1), (3, 2), (5, 3), (8, 5), (13, 8)],
    3: [(1, 0, 0), (1, 1, 1), (2, 2, 1), (4, 3, 2), (7, 6, 4), (13, 11, 7)],
    4: [(1, 0, 0, 0), (1, 1, 1, 1), (2, 2, 2, 1), (4, 4, 3, 2), (8, 7, 6, 4), (15, 14, 12, 8)],
    5: [(1, 0, 0, 0, 0), (1, 1, 1, 1, 1), (2, 2, 2, 2, 1), (4, 4, 4, 3, 2), (8, 8, 7, 6, 4)],
    6: [(1, 0, 0, 0, 0, 0), (1, 1, 1, 1, 1, 1), (2, 2, 2, 2, 2, 1), (4, 4, 4, 4, 3, 2)],
    7: [(1, 0, 0, 0, 0, 0, 0), (1, 1, 1, 1, 1, 1, 1), (2, 2, 2, 2, 2, 2, 1), (4, 4, 4, 4, 4, 3, 2)],
}


class Counts(unittest.TestCase):
    def test_first_levels(self):
        for p in WAYS:
            self.assertEqual([level_counts(p, n) for n in range(len(FIRST[p]))], FIRST[p])

    def test_each_level_from_the_one_ahead(self):
        for p in WAYS:
            counts = (1,) + (0,) * (p - 1)
            self.assertEqual(level_counts(p, 0), counts)
            for n in range(1, 301):
                counts = tuple(counts[0] + counts[k] for k in range(1, p)) + (counts[0],)
                self.assertEqual(level_counts(p, n), counts)

    def test_by_another_way(self):
        for p in WAYS:
            for n in range(301):
                self.assertEqual(level_counts(p, n), counts_by_hand(p, n))

    def test_they_never_rise(self):
        for p in WAYS:
            for n in range(301):
                counts = level_counts(p, n)
                self.assertEqual(list(counts), sorted(counts, reverse=True))

    def test_kinds(self):
        for p in WAYS:
            for n in (0, 1, 7, 300):
                counts = level_counts(p, n)
                self.assertIs(counts.__class__, tuple)
                self.assertEqual(len(counts), p)
                self.assertTrue(all(count.__class__ is int for count in counts))

    def test_two_ways_at_the_last_level(self):
        # Level n of two ways has two neighbours of Fibonacci's numbers, which are doubled here.
        low, high = 0, 1
        for figure in f"{300:b}":
            low, high = low * (2 * high - low), low * low + high * high
            if figure == "1":
                low, high = high, low + high
        self.assertEqual(level_counts(2, 300), (high, low))


class Total(unittest.TestCase):
    def test_first_totals(self):
        self.assertEqual([level_total(2, n) for n in range(8)], [1, 2, 3, 5, 8, 13, 21, 34])
        self.assertEqual([level_total(3, n) for n in range(6)], [1, 3, 5, 9, 17, 31])
        self.assertEqual([level_total(4, n) for n in range(5)], [1, 4, 7, 13, 25])
        self.assertEqual([level_total(7, n) for n in range(4)], [1, 7, 13, 25])

    def test_all_counts_together(self):
        for p in WAYS:
            for n in range(301):
                total = level_total(p, n)
                self.assertIs(total.__class__, int)
                self.assertEqual(total, sum(counts_by_hand(p, n)))

    def test_each_is_more_than_the_one_ahead(self):
        for p in WAYS:
            totals = [level_total(p, n) for n in range(301)]
            self.assertTrue(all(ahead < behind for ahead, behind in zip(totals, totals[1:])))


class LevelOf(unittest.TestCase):
    def test_few_rows(self):
        self.assertEqual([level_of(2, rows) for rows in range(1, 15)], [0, 1, 2, 3, 3, 4, 4, 4, 5, 5, 5, 5, 5, 6])
        self.assertEqual([level_of(3, rows) for rows in range(1, 11)], [0, 1, 1, 2, 2, 3, 3, 3, 3, 4])
        self.assertEqual([level_of(7, rows) for rows in (1, 2, 7, 8, 13, 14)], [0, 1, 1, 2, 2, 3])

    def test_at_each_total(self):
        for p in WAYS:
            for n in range(301):
                total = level_total(p, n)
                if total < 10 ** 60:
                    self.assertEqual(level_of(p, total), n)
                    self.assertEqual(level_of(p, total + 1), n + 1)
                    if n > 0:
                        self.assertEqual(level_of(p, total - 1), n if total - 1 > level_total(p, n - 1) else n - 1)

    def test_at_the_bounds(self):
        for p in WAYS:
            self.assertEqual(level_of(p, 1), 0)
            for rows in (FAR, 10 ** 60):
                n = level_of(p, rows)
                self.assertIs(n.__class__, int)
                self.assertGreaterEqual(level_total(p, n), rows)
                self.assertLess(level_total(p, n - 1), rows)
        self.assertEqual([level_of(p, 10 ** 60) for p in WAYS], [287, 227, 210, 204, 201, 199])

    def test_too_few(self):
        for p in WAYS:
            for rows in (0, -1, -2, -FAR, -10 ** 5000):
                with self.assertRaises(TooFew):
                    level_of(p, rows)

    def test_too_many(self):
        for p in WAYS:
            for rows in (10 ** 60 + 1, 10 ** 60 + 2, 10 ** 61, 10 ** 5000):
                with self.assertRaises(TooMany):
                    level_of(p, rows)


class Refused(unittest.TestCase):
    def test_no_ways(self):
        for p in NO_WAYS:
            for n in (0, 1, 300):
                with self.subTest(kind=p.__class__):
                    for ask in (level_counts, level_total):
                        with self.assertRaises(NoWays):
                            ask(p, n)
            with self.assertRaises(NoWays):
                level_of(p, 5)

    def test_no_ways_beside_no_level(self):
        for p in NO_WAYS:
            for n in NO_LEVELS:
                for ask in (level_counts, level_total):
                    with self.assertRaises(NoWays):
                        ask(p, n)

    def test_no_ways_beside_too_few_or_too_many_rows(self):
        for p in NO_WAYS:
            for rows in (0, -1, -FAR, 10 ** 60 + 1, 10 ** 5000):
                with self.assertRaises(NoWays):
                    level_of(p, rows)

    def test_no_level(self):
        for p in WAYS:
            for n in NO_LEVELS:
                with self.subTest(kind=n.__class__):
                    for ask in (level_counts, level_total):
                        with self.assertRaises(NoLevel):
                            ask(p, n)

    def test_at_the_bounds_none(self):
        for p in (2, 7):
            for n in (0, 300):
                self.assertEqual(len(level_counts(p, n)), p)
                self.assertGreaterEqual(level_total(p, n), 1)

    def test_what_is_refused_changes_nothing(self):
        ways, level = [2], [3]
        for p, n in ((ways, level), (2, level), (ways, 3)):
            for ask in (level_counts, level_total):
                with self.assertRaises((NoWays, NoLevel)):
                    ask(p, n)
        self.assertEqual((ways, level), ([2], [3]))


if __name__ == "__main__":
    unittest.main()
