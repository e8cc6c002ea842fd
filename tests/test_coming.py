"""[19]: fewreels.coming."""

import time
import unittest

from cases import NO_WAYS, WAYS, counts_by_hand, numbers_by_hand
from fewreels.best import best_reading
from fewreels.coming import came_counts, came_laying, came_reading, reel_for
from fewreels.errors import NoWays
from fewreels.laying import laying_holds, laying_reading
from fewreels.levels import level_of

ASKS = (reel_for, came_counts, came_laying, came_reading)


def come_by_hand(p, rows):
    """For none, one, two .. to so many rows: (level, rows of each reel, reel of the next row), one row at a time."""
    level = 0
    came = [0] * p
    for _ in range(rows + 1):
        behind = level
        counts = counts_by_hand(p, behind)
        if all(counts[reel] == came[reel] for reel in range(p)):
            behind += 1
            counts = counts_by_hand(p, behind)
        reel = 0
        for other in range(1, p):
            if counts[other] - came[other] > counts[reel] - came[reel]:
                reel = other
        yield level, list(came), reel
        level = behind
        came[reel] += 1


def laying_by_hand(p, level, came):
    laying = []
    for count, many in zip(counts_by_hand(p, level), came):
        reel = [True] * count
        for place in range(count - many):
            reel[place] = False
        laying.append(tuple(reel))
    return tuple(laying)


def reading_by_hand(p, level, laying):
    return sum(number for on_reel, reals in zip(numbers_by_hand(p, level), laying)
               for number, real in zip(on_reel, reals) if real)


class AsTheyCome(unittest.TestCase):
    def test_plain(self):
        self.assertEqual([reel_for(2, rows) for rows in range(8)], [0, 1, 0, 0, 1, 0, 0, 1])
        self.assertEqual([came_counts(2, rows) for rows in range(6)], [[0, 0], [1, 0], [1, 1], [2, 1], [3, 1], [3, 2]])
        self.assertEqual(came_laying(2, 4), ((True, True, True), (False, True)))
        self.assertEqual(came_reading(2, 4), 9)
        self.assertEqual([reel_for(3, rows) for rows in range(9)], [0, 1, 2, 0, 1, 0, 0, 1, 2])
        self.assertEqual(came_laying(3, 4), ((True, True), (False, True), (True,)))
        self.assertEqual(came_reading(3, 4), 2 + 1 + 1 + 2)
        self.assertEqual(came_laying(7, 2), ((True,), (True,)) + ((False,),) * 5)

    def test_no_rows(self):
        for p in WAYS:
            self.assertEqual(reel_for(p, 0), 0)
            self.assertEqual(came_counts(p, 0), [0] * p)
            self.assertEqual(came_laying(p, 0), ((False,),) + ((),) * (p - 1))
            self.assertEqual(came_reading(p, 0), 0)

    def test_of_several_the_first(self):
        # Behind the first row all other reels lack one by level 1; behind p rows all but the last do by level 2.
        for p in WAYS:
            self.assertEqual([reel_for(p, rows) for rows in range(p)], list(range(p)))
            self.assertEqual([reel_for(p, p + rows) for rows in range(p - 1)], list(range(p - 1)))

    def test_row_by_row(self):
        for p in WAYS:
            for rows, (level, came, reel) in enumerate(come_by_hand(p, 1000)):
                if rows > 250 and rows % 83 and rows < 999:
                    continue
                laying = laying_by_hand(p, level, came)
                self.assertEqual(reel_for(p, rows), reel, (p, rows))
                self.assertEqual(came_counts(p, rows), came, (p, rows))
                self.assertEqual(came_laying(p, rows), laying, (p, rows))
                self.assertEqual(came_reading(p, rows), reading_by_hand(p, level, laying), (p, rows))

    def test_a_laying_of_the_least_level(self):
        for p in WAYS:
            for rows in list(range(1, 150)) + [300, 301, 999, 1000]:
                level = level_of(p, rows)
                laying = came_laying(p, rows)
                self.assertIs(laying_holds(p, level, laying), True)
                self.assertEqual([len(reel) for reel in laying], list(counts_by_hand(p, level)))
                self.assertEqual([sum(reel) for reel in laying], came_counts(p, rows))
                self.assertEqual(sum(came_counts(p, rows)), rows)
                self.assertEqual(came_reading(p, rows), laying_reading(p, level, laying))
                for reel in laying:
                    self.assertEqual(list(reel), sorted(reel))

    def test_all_places_taken(self):
        for p in WAYS:
            for n in range(8):
                counts = counts_by_hand(p, n)
                self.assertEqual(came_counts(p, sum(counts)), list(counts))
                self.assertEqual(came_laying(p, sum(counts)), tuple((True,) * count for count in counts))

    def test_never_less_than_the_best(self):
        more = 0
        for p in WAYS:
            for rows in list(range(1, 200)) + [400, 500, 999, 1000]:
                reading = came_reading(p, rows)
                self.assertGreaterEqual(reading, best_reading(p, rows)[0])
                more += reading > best_reading(p, rows)[0]
        self.assertGreater(more, 500)

    def test_somewhat_more_rows(self):
        for p in WAYS:
            for rows in (1001, 2500):
                level, came, reel = list(come_by_hand(p, rows))[-1]
                laying = laying_by_hand(p, level, came)
                self.assertEqual(reel_for(p, rows), reel)
                self.assertEqual(came_counts(p, rows), came)
                self.assertEqual(came_laying(p, rows), laying)
                self.assertEqual(came_reading(p, rows), reading_by_hand(p, level, laying))

    def test_a_thousand_within_a_few_seconds(self):
        start = time.perf_counter()
        for p in WAYS:
            for ask in ASKS:
                ask(p, 1000)
        self.assertLess(time.perf_counter() - start, 5)


class Refused(unittest.TestCase):
    def test_no_ways(self):
        for p in NO_WAYS:
            for rows in (0, 1, 1000):
                for ask in ASKS:
                    with self.assertRaises(NoWays):
                        ask(p, rows)


class Own(unittest.TestCase):
    def test_kinds(self):
        for p in WAYS:
            for rows in (0, 1, 5, 100):
                self.assertIs(type(reel_for(p, rows)), int)
                self.assertIs(type(came_counts(p, rows)), list)
                self.assertIs(type(came_laying(p, rows)), tuple)
                self.assertIs(type(came_reading(p, rows)), int)
                for reel in came_laying(p, rows):
                    self.assertIs(type(reel), tuple)
                    self.assertTrue(all(real is True or real is False for real in reel))

    def test_what_was_told_is_the_askers(self):
        told = came_counts(3, 20)
        kept = list(told)
        told[0] = None
        told.append(5)
        self.assertEqual(came_counts(3, 20), kept)
        self.assertIsNot(came_counts(3, 20), came_counts(3, 20))


if __name__ == "__main__":
    unittest.main()
