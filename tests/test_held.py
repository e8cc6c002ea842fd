"""[28] and [29]: fewreels.held."""

import copy
import random
import time
import unittest

from cases import NO_WAYS, WAYS, best_by_hand, best_of
from fewreels.best import best_reading
from fewreels.cascade import best_cascade, cascade_spread, long_cascade
from fewreels.errors import NoWays
from fewreels.held import better_way, first_cascade, held_lengths, held_rows
from fewreels.joins import least_join
from fewreels.lengths import best_placing
from fewreels.levels import level_total
from fewreels.spreads import spread_of

MOST = 10 ** 12


def like_by_sum(p, s):
    """The sum that [28] has in brackets."""
    q = 0
    while p ** (q + 1) <= s:
        q += 1
    r = 0
    while r * (p - 1) < s - p ** q:
        # A stride as far as it is sure to be too little, so that far counts are come to as well.
        r += max(1, (s - p ** q - r * (p - 1)) // (2 * p))
    while r and (r - 1) * (p - 1) >= s - p ** q:
        r -= 1
    return s * q + s - p ** q + r


def balanced_by_words(p, rows, things):
    if p == 2:
        return None
    h = {3: 2, 4: 2, 5: 3, 6: 3, 7: 4}[p]
    n = 0
    while h ** n < rows:
        n += 1
    return things * n


def some_lengths(seed, many, bound):
    chance = random.Random(seed)
    return [chance.randint(0, bound) for _ in range(many)]


def many_lengths():
    """One to sixty lengths."""
    for many in list(range(1, 13)) + [20, 33, 47, 59, 60]:
        yield [1] * many
        yield [MOST] * many
        yield [0] * many
        yield some_lengths(many, many, 5)
        yield some_lengths(many, many, MOST)
        yield [2 ** (k // 2) for k in range(many)]


class LikeRows(unittest.TestCase):
    def test_plain(self):
        self.assertEqual(held_rows(2, 1), (0, 0, 0, None))
        self.assertEqual(held_rows(3, 1), (0, 0, 0, 0))
        self.assertEqual(held_rows(2, 3), (5, 5, 5, None))
        self.assertEqual(held_rows(3, 4), (6, 6, 7, 8))
        self.assertEqual(held_rows(7, 28), (53, 55, 55, 84))

    def test_against_their_parts(self):
        for p in WAYS:
            for rows in list(range(1, 200)) + [250, 343, 400]:
                self.assertEqual(held_rows(p, rows), (least_join(p, [1] * rows)[0], best_reading(p, rows)[0],
                                                      best_cascade(p, rows)[0], balanced_by_words(p, rows, rows)))

    def test_against_each_level(self):
        for p in WAYS:
            cascades = [cascade_spread(p, n) for n in range(101)]
            for rows in list(range(1, 120)) + [500, 1000, 10 ** 6, MOST - 1, MOST]:
                told = held_rows(p, rows)
                self.assertEqual(told[1], best_by_hand(p, rows)[0])
                self.assertEqual(told[2], best_of(cascades, rows)[0])

    def test_the_sum_in_brackets(self):
        for p in WAYS:
            powers = [p ** q + step for q in range(1, 14) for step in (-1, 0, 1, 2)]
            for rows in list(range(1, 400)) + [rows for rows in powers if 0 < rows <= MOST] + [MOST - 1, MOST]:
                self.assertEqual(held_rows(p, rows)[0], like_by_sum(p, rows))

    def test_balanced_passes(self):
        self.assertEqual([held_rows(p, 9)[3] for p in WAYS], [None, 36, 36, 18, 18, 18])
        self.assertEqual([held_rows(p, 10)[3] for p in WAYS], [None, 40, 40, 30, 30, 20])
        self.assertEqual([held_rows(7, rows)[3] for rows in (1, 2, 4, 5, 16, 17)], [0, 2, 4, 10, 32, 51])
        for p in WAYS:
            for rows in list(range(1, 300)) + [MOST - 1, MOST, 2 ** 39, 3 ** 25, 4 ** 19, 4 ** 19 + 1]:
                self.assertEqual(held_rows(p, rows)[3], balanced_by_words(p, rows, rows))

    def test_the_first_is_no_more_than_any_other(self):
        for p in WAYS:
            for rows in list(range(1, 300)) + [10 ** power for power in range(3, 13)]:
                log, *others = held_rows(p, rows)
                for other in others:
                    self.assertTrue(other is None or log <= other)
                self.assertIs(others[2] is None, p == 2)

    def test_kinds(self):
        for p in WAYS:
            told = held_rows(p, 9)
            self.assertIs(type(told), tuple)
            self.assertEqual([type(each) for each in told[:3]], [int] * 3)

    def test_far_within_a_few_seconds(self):
        start = time.perf_counter()
        for p in WAYS:
            held_rows(p, MOST)
        self.assertLess(time.perf_counter() - start, 5)


class FirstCascade(unittest.TestCase):
    def test_against_a_search_one_by_one(self):
        for p in WAYS:
            less = [rows for rows in range(1, 501) if best_cascade(p, rows)[0] < best_reading(p, rows)[0]]
            for most in (1, 2, 10, 100, 499, 500):
                found = [rows for rows in less if rows <= most]
                self.assertEqual(first_cascade(p, most), found[0] if found else None)

    def test_by_each_level(self):
        # No count to 500 is read less by the cascade, whichever levels are taken.
        for p in WAYS:
            phases = [spread_of(p, n) for n in range(60)]
            cascades = [cascade_spread(p, n) for n in range(40)]
            for rows in range(1, 501, 3):
                self.assertGreaterEqual(best_of(cascades, rows)[0], best_of(phases, rows)[0])
            self.assertIsNone(first_cascade(p, 500))

    def test_none_to_go_through(self):
        for p in WAYS:
            self.assertIsNone(first_cascade(p, 0))

    def test_five_hundred_within_a_few_seconds(self):
        start = time.perf_counter()
        for p in WAYS:
            first_cascade(p, 500)
        self.assertLess(time.perf_counter() - start, 5)


class Lengths(unittest.TestCase):
    def test_plain(self):
        self.assertEqual(held_lengths(2, [4, 6, 1]), (16, (16, 2), (16, 2), None))
        self.assertEqual(held_lengths(3, [4, 6, 1]), (11, (11, 1), (11, 1), 22))
        self.assertEqual(held_lengths(3, [5]), (0, (0, 0), (0, 0), 0))
        self.assertEqual(held_lengths(3, [1, 2, 3, 10]), (19, (19, 2), (22, 2), 32))

    def test_against_their_parts(self):
        for p in WAYS:
            for lengths in many_lengths():
                reading, level, _ = best_placing(p, lengths)
                expected = (least_join(p, lengths)[0], (reading, level), long_cascade(p, lengths),
                            balanced_by_words(p, len(lengths), sum(lengths)))
                self.assertEqual(held_lengths(p, lengths), expected)

    def test_the_first_is_no_more_than_any_other(self):
        for p in WAYS:
            for lengths in many_lengths():
                log, phases, cascade, balanced = held_lengths(p, lengths)
                self.assertLessEqual(log, phases[0])
                self.assertLessEqual(log, cascade[0])
                self.assertTrue(balanced is None or log <= balanced)

    def test_the_least_level_of_several(self):
        # Rows of no things are read for nothing at each level that has places for them.
        for p in WAYS:
            for many in (1, 2, 9, 60):
                told = held_lengths(p, [0] * many)
                level = min(n for n in range(30) if level_total(p, n) >= many)
                self.assertEqual(told[1], (0, level))
                self.assertEqual(told[2], long_cascade(p, [0] * many))

    def test_like_rows(self):
        for p in WAYS:
            for rows in (1, 2, 7, 30, 60):
                log, phases, cascade, balanced = held_lengths(p, [1] * rows)
                self.assertEqual((log, phases[0], cascade[0], balanced), held_rows(p, rows))

    def test_kinds(self):
        for p in WAYS:
            told = held_lengths(p, [3, 4, 5])
            self.assertIs(type(told), tuple)
            self.assertEqual([type(each) for each in told[:3]], [int, tuple, tuple])
            self.assertEqual([len(pair) for pair in told[1:3]], [2, 2])

    def test_sixty_of_the_longest_within_a_few_seconds(self):
        start = time.perf_counter()
        for p in WAYS:
            held_lengths(p, [MOST] * 60)
            better_way(p, [MOST] * 60)
        self.assertLess(time.perf_counter() - start, 5)


class Better(unittest.TestCase):
    def test_alike(self):
        for p in WAYS:
            self.assertEqual(better_way(p, [5]), "alike")
            self.assertEqual(better_way(p, [5] * p), "alike")
            self.assertEqual(better_way(p, [0] * 60), "alike")
        for lengths in many_lengths():
            self.assertEqual(better_way(2, lengths), "alike")

    def test_phases(self):
        for p in WAYS[1:]:
            self.assertEqual(better_way(p, [5] * (p + 1)), "phases")
            self.assertEqual(better_way(p, [5] * 60), "phases")
        self.assertEqual(better_way(3, [1, 2, 3, 10]), "phases")

    def test_cascade(self):
        # Of one to sixty rows none is read less by the cascade (see below); of far more some are, as by phases the
        # levels of at most 4000 places are too few by then.
        self.assertEqual(better_way(6, [1] * 1503), "cascade")
        self.assertEqual(better_way(6, [1] * 1502), "alike")
        self.assertEqual(better_way(6, [1] * 1501), "phases")
        self.assertEqual(better_way(7, [1] * 1958), "cascade")

    def test_of_sixty_rows_the_cascade_is_never_less(self):
        # For each level of the cascade there is one of the phases whose least numbers, added up, are nowhere more.
        for p in WAYS:
            phases = [least_sums(spread_of(p, n)) for n in range(40) if level_total(p, n) <= 4000]
            for n in range(40):
                spread = cascade_spread(p, n)
                if sum(many for _, many in spread) <= 4000:
                    sums = least_sums(spread)
                    for rows in range(1, min(60, len(sums)) + 1):
                        self.assertTrue(any(len(other) >= rows and nowhere_more(other[:rows], sums) for other in phases))

    def test_by_the_readings(self):
        for p in WAYS:
            for lengths in many_lengths():
                _, (phases, _), (cascade, _), _ = held_lengths(p, lengths)
                way = "alike" if phases == cascade else ("phases" if phases < cascade else "cascade")
                self.assertEqual(better_way(p, lengths), way)


def least_sums(spread):
    """The least number of a spread, the two least together, the three least, to sixty."""
    numbers = [number for number, many in spread for _ in range(min(many, 60))][:60]
    return [sum(numbers[:many + 1]) for many in range(len(numbers))]


def nowhere_more(sums, others):
    return all(one <= other for one, other in zip(sums, others))


class Refused(unittest.TestCase):
    def test_no_ways(self):
        for p in NO_WAYS:
            for ask in (lambda: held_rows(p, 5), lambda: held_lengths(p, [5, 6]), lambda: better_way(p, [5, 6]),
                        lambda: first_cascade(p, 10), lambda: first_cascade(p, 0)):
                with self.assertRaises(NoWays):
                    ask()


class Own(unittest.TestCase):
    def test_what_is_handed_in_stays(self):
        for lengths in many_lengths():
            kept = copy.deepcopy(lengths)
            told = held_lengths(3, lengths)
            way = better_way(3, lengths)
            self.assertEqual(lengths, kept)
            self.assertEqual(held_lengths(3, tuple(lengths)), told)
            self.assertEqual(better_way(3, tuple(lengths)), way)


if __name__ == "__main__":
    unittest.main()
