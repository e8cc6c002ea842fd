"""[16]: fewreels.best."""

import time
import unittest

from cases import NO_WAYS, WAYS, best_by_hand, counts_by_hand, least_by_hand, numbers_by_hand
from fewreels.best import best_laying, best_reading, best_right
from fewreels.errors import NoWays, TooMany
from fewreels.laying import laying_holds, laying_reading


def changed(laying, spots):
    """The laying with the places that are named the other way about."""
    reels = [list(reel) for reel in laying]
    for reel, place in spots:
        reels[reel][place] = not reels[reel][place]
    return tuple(tuple(reel) for reel in reels)


def spots_of(p, level, laying):
    """(number, reel, place, real) of all places."""
    return [(number, reel, place, laying[reel][place]) for reel, numbers in enumerate(numbers_by_hand(p, level))
            for place, number in enumerate(numbers)]


def laid_by_hand(p, level, rows):
    """The rows at the last ones of all places, by number, that read the least."""
    numbers = numbers_by_hand(p, level)
    spots = sorted((number, -reel, -place) for reel, on_reel in enumerate(numbers) for place, number in enumerate(on_reel))
    return changed(tuple((False,) * len(on_reel) for on_reel in numbers),
                   [(-reel, -place) for _, reel, place in spots[:rows]])


class BestReading(unittest.TestCase):
    def test_plain(self):
        self.assertEqual([best_reading(2, rows) for rows in range(1, 7)],
                         [(0, 0), (2, 1), (5, 2), (9, 3), (12, 3), (17, 4)])
        self.assertEqual([best_reading(3, rows) for rows in range(1, 6)], [(0, 0), (2, 1), (3, 1), (6, 2), (8, 2)])
        self.assertEqual(best_reading(7, 7), (7, 1))

    def test_against_each_level(self):
        for p in WAYS:
            for rows in range(1, 451):
                best, levels = best_by_hand(p, rows)
                self.assertEqual(best_reading(p, rows), (best, levels[0]))

    def test_far_counts_against_each_level(self):
        for p in WAYS:
            for power in range(3, 13):
                for rows in (10 ** power - 1, 10 ** power, 7 * 10 ** power // 10, sum(counts_by_hand(p, 2 * power))):
                    best, levels = best_by_hand(p, rows)
                    self.assertEqual(best_reading(p, rows), (best, levels[0]))

    def test_the_first_of_several_levels(self):
        self.assertEqual([(p, rows, best_by_hand(p, rows)[1]) for p, rows in ((3, 17), (4, 10), (5, 268), (7, 167))],
                         [(3, 17, [4, 5]), (4, 10, [3, 4]), (5, 268, [9, 10]), (7, 167, [9, 10])])
        self.assertEqual(best_reading(3, 17), (48, 4))
        self.assertEqual(best_reading(4, 10), (19, 3))
        self.assertEqual(best_reading(5, 268), (1022, 9))
        self.assertEqual(best_reading(7, 167), (486, 9))
        for p in (3, 4, 5, 6, 7):
            self.assertEqual(best_reading(p, 2), (2, 1))

    def test_far_above_the_level_of_so_many_rows(self):
        # 100 rows on six reels fit level 6 (181 places), but read less on level 8.
        self.assertEqual(best_reading(6, 100), (285, 8))
        self.assertGreater(sum(counts_by_hand(6, 6)), 100)
        self.assertGreater(least_by_hand(6, 6, 100), 285)

    def test_kinds(self):
        for p in WAYS:
            for rows in (1, 2, 400, 10 ** 12):
                told = best_reading(p, rows)
                self.assertIs(told.__class__, tuple)
                self.assertEqual([each.__class__ for each in told], [int, int])

    def test_soon_told(self):
        start = time.perf_counter()
        for p in WAYS:
            best_reading(p, 10 ** 12)
            told = best_laying(p, 400)
            best_right(p, 400, told)
        self.assertLess(time.perf_counter() - start, 5)


class BestLaying(unittest.TestCase):
    def test_each_count_of_rows(self):
        for p in WAYS:
            for rows in range(1, 401):
                told = best_laying(p, rows)
                reading, level, laying = told
                self.assertIs(told.__class__, tuple)
                self.assertEqual((reading, level), best_reading(p, rows))
                self.assertIs(laying_holds(p, level, laying), True)
                self.assertEqual(sum(map(sum, laying)), rows)
                self.assertEqual(laying_reading(p, level, laying), reading)
                self.assertIs(best_right(p, rows, told), True)

    def test_of_one_row(self):
        for p in WAYS:
            self.assertEqual(best_laying(p, 1), (0, 0, ((True,),) + ((),) * (p - 1)))

    def test_too_many(self):
        for p in WAYS:
            for rows in (401, 402, 4001, 10 ** 12, 10 ** 60):
                with self.assertRaises(TooMany):
                    best_laying(p, rows)


class Right(unittest.TestCase):
    def test_another_laying_that_reads_as_little(self):
        others = 0
        for p in WAYS:
            for rows in list(range(1, 60)) + [100, 377, 399, 400]:
                reading, level, laying = best_laying(p, rows)
                other = laid_by_hand(p, level, rows)
                others += other != laying
                self.assertIs(best_right(p, rows, (reading, level, other)), True)
        self.assertGreater(others, 100)

    def test_each_swap_of_two_places(self):
        for p in WAYS:
            for rows in (2, 5, 9, 20):
                reading, level, laying = best_laying(p, rows)
                spots = spots_of(p, level, laying)
                for number, reel, place, real in spots:
                    for other, to_reel, to_place, there in spots:
                        if real and not there:
                            swapped = changed(laying, [(reel, place), (to_reel, to_place)])
                            self.assertIs(best_right(p, rows, (reading, level, swapped)), number == other)
                            # What it reads itself isn't the least where it lies at a greater number.
                            own = reading - number + other
                            self.assertIs(best_right(p, rows, (own, level, swapped)), number == other)

    def test_each_place_spoilt(self):
        for p in WAYS:
            for rows in (1, 2, 5, 9, 20, 60):
                reading, level, laying = best_laying(p, rows)
                for number, reel, place, real in spots_of(p, level, laying):
                    spoilt = changed(laying, [(reel, place)])
                    step = -number if real else number
                    for other in (reading, reading + step):
                        self.assertIs(best_right(p, rows, (other, level, spoilt)), False)

    def test_fewer_rows_that_read_as_much(self):
        # By level 2 of three ways the numbers are (2, 1), (2, 1), (2,).
        self.assertIs(best_right(3, 4, (6, 2, ((True, True), (True, True), (False,)))), True)
        self.assertIs(best_right(3, 4, (6, 2, ((True, False), (True, False), (True,)))), False)

    def test_the_reading_and_the_level_spoilt(self):
        for p in WAYS:
            for rows in (1, 2, 3, 10, 100, 400):
                reading, level, laying = best_laying(p, rows)
                for step in (-1, 1, 10 ** 59, -10 ** 59, -2 * reading - 1):
                    self.assertIs(best_right(p, rows, (reading + step, level, laying)), False)
                for other in (level - 1, level + 1, -level - 1, 300, 301, 10 ** 59, -10 ** 59):
                    self.assertIs(best_right(p, rows, (reading, other, laying)), False)

    def test_rows_one_more_or_less(self):
        for p in WAYS:
            for rows in (2, 3, 10, 100, 399):
                told = best_laying(p, rows)
                self.assertIs(best_right(p, rows - 1, told), False)
                self.assertIs(best_right(p, rows + 1, told), False)

    def test_a_later_level_that_reads_as_little(self):
        for p, rows in ((3, 17), (4, 10), (5, 4), (6, 4), (7, 167)):
            reading, levels = best_by_hand(p, rows)
            for at, level in enumerate(levels):
                laying = laid_by_hand(p, level, rows)
                self.assertEqual(laying_reading(p, level, laying), reading)
                self.assertIs(best_right(p, rows, (reading, level, laying)), at == 0)

    def test_the_least_of_a_level_that_is_not_the_best(self):
        for p in WAYS:
            for rows in (2, 5, 30):
                best, levels = best_by_hand(p, rows)
                for level in range(9):
                    least = least_by_hand(p, level, rows)
                    if least is not None and level != levels[0]:
                        self.assertIs(best_right(p, rows, (least, level, laid_by_hand(p, level, rows))), False)

    def test_what_is_no_laying(self):
        for p in WAYS:
            for rows in (1, 2, 9, 40):
                reading, level, laying = best_laying(p, rows)
                for other in (laying + ((),), laying[:-1], (), laying[1:] + laying[:1] + laying[:1],
                              (laying[0] + (False,),) + laying[1:], (laying[0][:-1],) + laying[1:],
                              (laying[0] + (True,),) + laying[1:], list(laying), tuple(list(reel) for reel in laying),
                              tuple(tuple(int(real) for real in reel) for reel in laying)):
                    self.assertIs(best_right(p, rows, (reading, level, other)), False)

    def test_truths_are_no_numbers(self):
        self.assertIs(best_right(2, 1, (0, 0, ((True,), ()))), True)
        self.assertIs(best_right(2, 1, (False, 0, ((True,), ()))), False)
        self.assertIs(best_right(2, 1, (0, False, ((True,), ()))), False)
        self.assertIs(best_right(2, 2, (2, 1, ((True,), (True,)))), True)
        self.assertIs(best_right(2, 2, (2, True, ((True,), (True,)))), False)

    def test_a_triple_is_a_tuple_of_three(self):
        for told in ([0, 0, ((True,), ())], (0, 0), (0, 0, ((True,), ()), 0), ()):
            self.assertIs(best_right(2, 1, told), False)

    def test_somewhat_more_rows_are_not_refused(self):
        for p, rows in ((2, 401), (6, 500), (7, 800)):
            reading, levels = best_by_hand(p, rows)
            laying = laid_by_hand(p, levels[0], rows)
            self.assertIs(best_right(p, rows, (reading, levels[0], laying)), True)
            self.assertIs(best_right(p, rows, (reading + 1, levels[0], laying)), False)
            self.assertIs(best_right(p, rows, (reading, levels[0], laying[:-1])), False)


class Refused(unittest.TestCase):
    def test_no_ways(self):
        for p in NO_WAYS:
            for rows in (1, 5, 400, 401, 10 ** 12):
                with self.assertRaises(NoWays):
                    best_reading(p, rows)
                with self.assertRaises(NoWays):
                    best_laying(p, rows)
                for told in ((0, 0, ((True,), ())), (), None):
                    with self.assertRaises(NoWays):
                        best_right(p, rows, told)

    def test_asked_again_the_same(self):
        for p in WAYS:
            for rows in (1, 10, 400):
                self.assertEqual(best_laying(p, rows), best_laying(p, rows))
                self.assertEqual(best_reading(p, rows), best_reading(p, rows))


if __name__ == "__main__":
    unittest.main()
