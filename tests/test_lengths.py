"""[17] and [18]: fewreels.lengths."""

import copy
import itertools
import random
import time
import unittest

from cases import FAR, NO_LEVELS, NO_WAYS, WAYS, counts_by_hand, last_told, numbers_by_hand
from fewreels.errors import NoLevel, NoWays, TooFew, TooMany
from fewreels.lengths import best_placing, least_placing, placing_holds, placing_reading, placing_right

MOST = 10 ** 12


def some_lengths(seed, many, bound):
    chance = random.Random(seed)
    return [chance.randint(0, bound) for _ in range(many)]


def many_lengths():
    """Alike, unlike, of 0, of 10 ** 12, rising, falling, one to 200."""
    yield [0]
    yield [5]
    yield [MOST]
    yield [0, 0, 0]
    yield [0, MOST]
    yield [3, 1, 2]
    yield [4] * 17
    yield [0] * 200
    yield [MOST] * 200
    yield list(range(200))
    yield list(range(200, 0, -1))
    yield [MOST, 0] * 100
    yield [2 ** k for k in range(40)]
    for many in (2, 3, 10, 33, 100, 199, 200):
        for bound in (1, 9, MOST):
            yield some_lengths(many, many, bound)


def spots_of(p, n):
    return [(reel, place) for reel, count in enumerate(counts_by_hand(p, n)) for place in range(count)]


def read_by_hand(p, n, lengths, placing):
    total = 0
    for row, length in enumerate(lengths):
        reel, place = placing[row]
        total += length * numbers_by_hand(p, n)[reel][place]
    return total


def least_by_words(p, n, lengths):
    """So many least numbers, the longest row at the least, None where there are too few places."""
    numbers = sorted(number for reel in numbers_by_hand(p, n) for number in reel)
    if len(numbers) < len(lengths):
        return None
    return sum(length * number for length, number in zip(sorted(lengths, reverse=True), numbers))


def best_by_words(p, lengths):
    """The least reading over all levels of at most 4000 places, and all levels that have it."""
    readings = {n: least_by_words(p, n, lengths) for n in range(last_told(p) + 1)}
    best = min(reading for reading in readings.values() if reading is not None)
    return best, [n for n, reading in readings.items() if reading == best]


def placed_by_hand(p, n, lengths):
    """A least placing with alike ones the other way about than by their first places."""
    numbers = numbers_by_hand(p, n)
    spots = sorted(spots_of(p, n), key=lambda spot: (numbers[spot[0]][spot[1]], -spot[0], -spot[1]))
    placing = [None] * len(lengths)
    for row, spot in zip(sorted(range(len(lengths)), key=lambda row: (-lengths[row], -row)), spots):
        placing[row] = spot
    return placing


class Holds(unittest.TestCase):
    def test_plain(self):
        # By level 2 of two ways reel 0 has two places and reel 1 has one.
        for placing in ([(0, 0)], [(0, 1)], [(1, 0)]):
            self.assertIs(placing_holds(2, 2, [5], placing), True)
        self.assertIs(placing_holds(2, 2, [5, 0], [(1, 0), (0, 1)]), True)
        self.assertIs(placing_holds(2, 2, [5, 0, 7], [(1, 0), (0, 1), (0, 0)]), True)

    def test_two_rows_at_one_place(self):
        self.assertIs(placing_holds(2, 2, [5, 0], [(0, 1), (0, 1)]), False)
        self.assertIs(placing_holds(2, 2, [5, 5, 5], [(1, 0), (0, 1), (1, 0)]), False)

    def test_a_reel_or_a_place_that_is_none(self):
        for pair in ((2, 0), (3, 0), (-1, 0), (-2, 0), (0, 2), (1, 1), (0, -1), (0, -2), (1, -1), (-1, -1), (FAR, 0),
                     (0, FAR), (-FAR, 0), (0, -FAR), (FAR, -FAR)):
            self.assertIs(placing_holds(2, 2, [5], [pair]), False)
            self.assertIs(placing_holds(2, 2, [5, 6], [(0, 0), pair]), False)
        self.assertIs(placing_holds(2, 0, [5], [(1, 0)]), False)
        self.assertIs(placing_holds(2, 0, [5], [(0, 0)]), True)

    def test_too_few_or_too_many_pairs(self):
        self.assertIs(placing_holds(2, 2, [5, 6], [(0, 0)]), False)
        self.assertIs(placing_holds(2, 2, [5, 6], []), False)
        self.assertIs(placing_holds(2, 2, [5, 6], [(0, 0), (0, 1), (1, 0)]), False)
        self.assertIs(placing_holds(2, 2, [5], [(0, 0), (0, 1)]), False)

    def test_more_rows_than_places(self):
        self.assertIs(placing_holds(2, 2, [1] * 4, [(0, 0), (0, 1), (1, 0), (0, 0)]), False)
        self.assertIs(placing_holds(2, 2, [1] * 4, [(0, 0), (0, 1), (1, 0), (1, 1)]), False)
        self.assertIs(placing_holds(2, 2, [1] * 4, [(0, 0), (0, 1), (1, 0)]), False)

    def test_each_place_of_each_level(self):
        for p in WAYS:
            for n in (0, 1, 2, 5, last_told(p)):
                spots = spots_of(p, n)
                for reel, count in enumerate(counts_by_hand(p, n)):
                    if count:
                        self.assertIs(placing_holds(p, n, [1], [(reel, count - 1)]), True)
                    self.assertIs(placing_holds(p, n, [1], [(reel, count)]), False)
                self.assertIs(placing_holds(p, n, [1], [(p, 0)]), False)
                rows = min(len(spots), 200)
                self.assertIs(placing_holds(p, n, [1] * rows, spots[:rows]), True)
                self.assertIs(placing_holds(p, n, [1] * rows, spots[-rows:][::-1]), True)

    def test_every_small_placing(self):
        spots = set(spots_of(2, 3))
        pairs = list(itertools.product(range(-1, 3), range(-1, 4)))
        for rows in (1, 2, 3):
            for placing in itertools.product(pairs, repeat=rows):
                right = set(placing) <= spots and len(set(placing)) == rows
                self.assertIs(placing_holds(2, 3, [7] * rows, list(placing)), right)

    def test_truths_are_no_numbers(self):
        for pair in ((False, 0), (0, False), (True, 0), (0, True), (False, False)):
            self.assertIs(placing_holds(2, 2, [5], [pair]), False)

    def test_a_pair_is_a_tuple_of_two(self):
        for pair in ([0, 0], (0,), (0, 0, 0), (), 0):
            self.assertIs(placing_holds(2, 2, [5], [pair]), False)

    def test_what_is_no_list(self):
        for placing in (None, True, 0, 1):
            self.assertIs(placing_holds(2, 2, [5], placing), False)


class Reading(unittest.TestCase):
    def test_plain(self):
        # By level 3 of two ways the numbers are (3, 2, 2) and (3, 2).
        self.assertEqual(placing_reading(2, 3, [5, 7], [(0, 0), (1, 1)]), 29)
        self.assertEqual(placing_reading(2, 3, [5, 7], [(1, 1), (0, 0)]), 31)
        self.assertEqual(placing_reading(2, 0, [9], [(0, 0)]), 0)

    def test_lengths_of_none_and_of_the_most(self):
        self.assertEqual(placing_reading(2, 3, [0, 0], [(0, 0), (1, 1)]), 0)
        self.assertEqual(placing_reading(2, 3, [MOST, 0], [(0, 0), (1, 1)]), 3 * MOST)
        self.assertEqual(placing_reading(2, 3, [0, MOST], [(0, 0), (1, 1)]), 2 * MOST)

    def test_by_hand(self):
        chance = random.Random(17)
        for p in WAYS:
            for n in (3, 6, last_told(p)):
                for lengths in many_lengths():
                    spots = spots_of(p, n)
                    if len(spots) >= len(lengths):
                        placing = chance.sample(spots, len(lengths))
                        told = placing_reading(p, n, lengths, placing)
                        self.assertIs(told.__class__, int)
                        self.assertEqual(told, read_by_hand(p, n, lengths, placing))


class LeastOfALevel(unittest.TestCase):
    def test_against_all_placings(self):
        for p, n in ((2, 0), (2, 1), (2, 2), (2, 3), (2, 4), (3, 1), (3, 2), (4, 2), (7, 1)):
            for lengths in ([4], [0, 3], [3, 3], [1, 5, 2], [0, 0, 9], [7, 1, 7, 2]):
                spots = spots_of(p, n)
                if len(spots) < len(lengths):
                    with self.assertRaises(TooFew):
                        least_placing(p, n, lengths)
                else:
                    least = min(read_by_hand(p, n, lengths, placing)
                                for placing in itertools.permutations(spots, len(lengths)))
                    self.assertEqual(least_placing(p, n, lengths)[0], least)

    def test_its_placing(self):
        for p in WAYS:
            for n in range(last_told(p) + 1):
                for lengths in many_lengths():
                    if sum(counts_by_hand(p, n)) < len(lengths):
                        with self.assertRaises(TooFew):
                            least_placing(p, n, lengths)
                        continue
                    told = least_placing(p, n, lengths)
                    reading, placing = told
                    self.assertEqual([told.__class__, reading.__class__, placing.__class__], [tuple, int, list])
                    self.assertIs(placing_holds(p, n, lengths, placing), True)
                    self.assertEqual(read_by_hand(p, n, lengths, placing), reading)
                    self.assertEqual(reading, least_by_words(p, n, lengths))

    def test_just_so_many_places(self):
        for p in WAYS:
            for n in (0, 1, 2, 3):
                places = sum(counts_by_hand(p, n))
                self.assertEqual(len(least_placing(p, n, [2] * places)[1]), places)
                with self.assertRaises(TooFew):
                    least_placing(p, n, [2] * (places + 1))

    def test_too_many_places(self):
        for p in WAYS:
            for n in (last_told(p) + 1, 100, 300):
                with self.assertRaises(TooMany):
                    least_placing(p, n, [1])
                with self.assertRaises(TooMany):
                    least_placing(p, n, [1] * 200)

    def test_too_few_goes_ahead_of_too_many(self):
        for p in WAYS:
            places = sum(counts_by_hand(p, last_told(p) + 1))
            with self.assertRaises(TooFew):
                least_placing(p, last_told(p) + 1, [0] * (places + 1))
            with self.assertRaises(TooMany):
                least_placing(p, last_told(p) + 1, [0] * places)


class LeastOfAll(unittest.TestCase):
    def test_plain(self):
        self.assertEqual(best_placing(2, [9]), (0, 0, [(0, 0)]))
        self.assertEqual(best_placing(2, [4, 6])[:2], (10, 1))
        self.assertEqual(best_placing(2, [4, 6, 1])[:2], (16, 2))
        self.assertEqual(best_placing(3, [4, 6, 1])[:2], (11, 1))
        self.assertEqual(best_placing(3, [1, 1, 1, 9])[:2], (14, 2))

    def test_against_each_level(self):
        for p in WAYS:
            for lengths in many_lengths():
                told = best_placing(p, lengths)
                reading, level, placing = told
                self.assertEqual([each.__class__ for each in told], [int, int, list])
                self.assertIs(told.__class__, tuple)
                best, levels = best_by_words(p, lengths)
                self.assertEqual((reading, level), (best, levels[0]))
                self.assertIs(placing_holds(p, level, lengths, placing), True)
                self.assertEqual(read_by_hand(p, level, lengths, placing), reading)
                self.assertIs(placing_right(p, lengths, told), True)

    def test_the_first_of_several_levels(self):
        for p in WAYS:
            for many in (1, 2, 5, 30, 200):
                # Nothing is read of rows without things, at whichever level they fit.
                reading, level, _ = best_placing(p, [0] * many)
                self.assertEqual(reading, 0)
                self.assertGreaterEqual(sum(counts_by_hand(p, level)), many)
                self.assertTrue(level == 0 or sum(counts_by_hand(p, level - 1)) < many)
        for p, rows, level in ((3, 17, 4), (4, 10, 3), (7, 167, 9)):
            self.assertGreater(len(best_by_words(p, [6] * rows)[1]), 1)
            self.assertEqual(best_placing(p, [6] * rows)[1], level)

    def test_levels_above_4000_places_are_left_out(self):
        # So many like rows, more than are promised, would read less at level 11, which has 4961 places.
        lengths = [1] * 500
        self.assertEqual(last_told(6), 10)
        best, levels = best_by_words(6, lengths)
        self.assertLess(least_by_words(6, 11, lengths), best)
        self.assertEqual(best_placing(6, lengths)[:2], (best, levels[0]))

    def test_soon_told(self):
        lengths = some_lengths(7, 200, MOST)
        start = time.perf_counter()
        for p in WAYS:
            self.assertIs(placing_right(p, lengths, best_placing(p, lengths)), True)
            least_placing(p, last_told(p), lengths)
        self.assertLess(time.perf_counter() - start, 5)


class Right(unittest.TestCase):
    def test_another_placing_that_reads_as_little(self):
        others = 0
        for p in WAYS:
            for lengths in many_lengths():
                reading, level, placing = best_placing(p, lengths)
                other = placed_by_hand(p, level, lengths)
                others += other != placing
                self.assertIs(placing_right(p, lengths, (reading, level, other)), True)
        self.assertGreater(others, 100)

    def test_every_placing_of_small_ones(self):
        for p, lengths in ((2, [3, 1, 2]), (2, [5, 0, 5, 1]), (3, [1, 1, 1, 9]), (4, [2, 0, 0, 1]), (7, [1, 2])):
            reading, level, _ = best_placing(p, lengths)
            right = 0
            for placing in itertools.permutations(spots_of(p, level), len(lengths)):
                holds = read_by_hand(p, level, lengths, placing) == reading
                right += holds
                self.assertIs(placing_right(p, lengths, (reading, level, list(placing))), holds)
                self.assertIs(placing_right(p, lengths, (reading, level, placing)), holds)
            self.assertGreater(right, 0)

    def test_the_reading_and_the_level_spoilt(self):
        for p in WAYS:
            for lengths in ([0], [5], [3, 1, 2], [4] * 17, some_lengths(3, 50, MOST)):
                reading, level, placing = best_placing(p, lengths)
                for step in (-1, 1, FAR, -FAR, -2 * reading - 1):
                    self.assertIs(placing_right(p, lengths, (reading + step, level, placing)), False)
                for other in (level - 1, level + 1, -level - 1, 300, 301, FAR, -FAR):
                    self.assertIs(placing_right(p, lengths, (reading, other, placing)), False)

    def test_each_pair_spoilt(self):
        for p in WAYS:
            lengths = [3, 1, 2, 9, 9, 4]
            reading, level, placing = best_placing(p, lengths)
            for at, (reel, place) in enumerate(placing):
                for pair in ((p, place), (-1, place), (reel, -1), (reel, FAR), (-FAR, place), (reel - p, place),
                             placing[at - 1], (reel,), (reel, place, 0), [reel, place], (bool(reel), place)):
                    spoilt = placing[:at] + [pair] + placing[at + 1:]
                    self.assertIs(placing_right(p, lengths, (reading, level, spoilt)), False)
            self.assertIs(placing_right(p, lengths, (reading, level, placing[1:])), False)
            self.assertIs(placing_right(p, lengths, (reading, level, placing[:-1])), False)
            self.assertIs(placing_right(p, lengths, (reading, level, placing + placing[:1])), False)
            self.assertIs(placing_right(p, lengths, (reading, level, placing + [(0, 0)])), False)
            self.assertIs(placing_right(p, lengths, (reading, level, [])), False)

    def test_a_placing_that_reads_more(self):
        # The shorter row ahead of the longer one; the told reading is the least or that placing's own.
        reading, level, placing = best_placing(2, [4, 6, 1])
        turned = [placing[1], placing[2], placing[0]]
        more = read_by_hand(2, level, [4, 6, 1], turned)
        self.assertGreater(more, reading)
        for other in (reading, more):
            self.assertIs(placing_right(2, [4, 6, 1], (other, level, turned)), False)

    def test_a_later_level_that_reads_as_little(self):
        for p, rows in ((3, 17), (4, 10), (7, 167)):
            lengths = [6] * rows
            best, levels = best_by_words(p, lengths)
            for at, level in enumerate(levels):
                reading, placing = least_placing(p, level, lengths)
                self.assertEqual(reading, best)
                self.assertIs(placing_right(p, lengths, (reading, level, placing)), at == 0)

    def test_the_least_of_a_level_that_is_not_the_best(self):
        for p in WAYS:
            lengths = [3, 1, 2, 9, 9, 4]
            for level in range(last_told(p) + 1):
                if sum(counts_by_hand(p, level)) >= len(lengths):
                    reading, placing = least_placing(p, level, lengths)
                    right = level == best_placing(p, lengths)[1]
                    self.assertIs(placing_right(p, lengths, (reading, level, placing)), right)

    def test_truths_are_no_numbers(self):
        self.assertIs(placing_right(2, [5], (0, 0, [(0, 0)])), True)
        for told in ((False, 0, [(0, 0)]), (0, False, [(0, 0)]), (0, 0, [(False, 0)]), (0, 0, [(0, False)])):
            self.assertIs(placing_right(2, [5], told), False)
        self.assertIs(placing_right(2, [1, 0], (1, 1, [(0, 0), (1, 0)])), True)
        self.assertIs(placing_right(2, [1, 0], (True, 1, [(0, 0), (1, 0)])), False)
        self.assertIs(placing_right(2, [1, 0], (1, True, [(0, 0), (1, 0)])), False)
        self.assertIs(placing_right(2, [1, 0], (1, 1, [(0, 0), (True, 0)])), False)

    def test_a_triple_is_a_tuple_of_three(self):
        for told in ([0, 0, [(0, 0)]], (0, 0), (0, 0, [(0, 0)], 0), ()):
            self.assertIs(placing_right(2, [5], told), False)


class Refused(unittest.TestCase):
    def test_no_ways(self):
        for p in NO_WAYS:
            for n in (0, 2, 17, 300) + NO_LEVELS:
                for ask in (placing_holds, placing_reading):
                    with self.assertRaises(NoWays):
                        ask(p, n, [5], [(0, 0)])
                for lengths in ([5], [1] * 200):
                    with self.assertRaises(NoWays):
                        least_placing(p, n, lengths)
            with self.assertRaises(NoWays):
                best_placing(p, [5, 6])
            for told in ((0, 0, [(0, 0)]), (), None):
                with self.assertRaises(NoWays):
                    placing_right(p, [5], told)

    def test_no_level(self):
        for p in WAYS:
            for n in NO_LEVELS:
                for ask in (placing_holds, placing_reading):
                    with self.assertRaises(NoLevel):
                        ask(p, n, [5], [(0, 0)])
                for lengths in ([5], [1] * 200):
                    with self.assertRaises(NoLevel):
                        least_placing(p, n, lengths)

    def test_too_many_places(self):
        for p in WAYS:
            for n in (last_told(p) + 1, 100, 300):
                for placing in ([(0, 0)], [], [(-1, 9)], [(0, 0)] * 2):
                    for ask in (placing_holds, placing_reading):
                        with self.assertRaises(TooMany):
                            ask(p, n, [5], placing)


class Own(unittest.TestCase):
    def test_a_tuple_does_as_a_list(self):
        for p in (2, 5):
            for lengths in many_lengths():
                told = best_placing(p, lengths)
                reading, level, placing = told
                self.assertEqual(best_placing(p, tuple(lengths)), told)
                self.assertEqual(least_placing(p, level, tuple(lengths)), (reading, placing))
                self.assertIs(placing_holds(p, level, tuple(lengths), tuple(placing)), True)
                self.assertEqual(placing_reading(p, level, tuple(lengths), tuple(placing)), reading)
                self.assertIs(placing_right(p, tuple(lengths), (reading, level, tuple(placing))), True)

    def test_what_is_handed_in_stays(self):
        for lengths in many_lengths():
            kept = list(lengths)
            told = best_placing(3, lengths)
            kept_told = copy.deepcopy(told)
            reading, level, placing = told
            least_placing(3, level, lengths)
            placing_holds(3, level, lengths, placing)
            placing_reading(3, level, lengths, placing)
            placing_right(3, lengths, told)
            self.assertEqual((lengths, told), (kept, kept_told))

    def test_what_was_told_is_the_askers(self):
        lengths = [3, 1, 2]
        for ask in (lambda: best_placing(2, lengths), lambda: least_placing(2, 3, lengths)):
            first = ask()
            kept = copy.deepcopy(first)
            first[-1].append(None)
            first[-1][0] = None
            self.assertEqual(ask(), kept)
            self.assertIsNot(ask()[-1], ask()[-1])


if __name__ == "__main__":
    unittest.main()
