"""[13]: fewreels.numbers."""

import unittest

from cases import NO_LEVELS, NO_WAYS, WAYS, counts_by_hand, last_told
from fewreels.errors import NoLevel, NoWays, TooMany
from fewreels.numbers import level_numbers

FIRST = {
    2: [((0,), ()), ((1,), (1,)), ((2, 1), (2,)), ((3, 2, 2), (3, 2)), ((4, 3, 3, 3, 2), (4, 3, 3))],
    3: [((0,), (), ()), ((1,), (1,), (1,)), ((2, 1), (2, 1), (2,)), ((3, 2, 2, 1), (3, 2, 2), (3, 2))],
    4: [((0,), (), (), ()), ((1,),) * 4, ((2, 1), (2, 1), (2, 1), (2,)),
        ((3, 2, 2, 1), (3, 2, 2, 1), (3, 2, 2), (3, 2))],
    5: [((0,), (), (), (), ()), ((1,),) * 5, ((2, 1),) * 4 + ((2,),)],
    6: [((0,), (), (), (), (), ()), ((1,),) * 6, ((2, 1),) * 5 + ((2,),)],
    7: [((0,), (), (), (), (), (), ()), ((1,),) * 7, ((2, 1),) * 6 + ((2,),)],
}


def read_by_hand(p, n):
    """How often each row is read, by merging what lies on the reels, n phases long."""
    reels = [[[(reel, place)] for place in range(count)] for reel, count in enumerate(counts_by_hand(p, n))] + [[]]
    read = [[0] * len(reel) for reel in reels]
    for _ in range(n):
        out = [reel for reel in range(p + 1) if not reels[reel]][0]
        full = [reel for reel in range(p + 1) if reels[reel]]
        for _ in range(min(len(reels[reel]) for reel in full)):
            merged = [row for reel in full for row in reels[reel].pop(0)]
            for reel, place in merged:
                read[reel][place] += 1
            reels[out].append(merged)
    return reels, tuple(tuple(reel) for reel in read[:p])


class Numbers(unittest.TestCase):
    def test_first_levels(self):
        for p in WAYS:
            self.assertEqual([level_numbers(p, n) for n in range(len(FIRST[p]))], FIRST[p])

    def test_each_level_from_the_one_ahead(self):
        for p in WAYS:
            ahead = ((0,),) + ((),) * (p - 1)
            self.assertEqual(level_numbers(p, 0), ahead)
            for n in range(1, last_told(p) + 1):
                first = tuple(number + 1 for number in ahead[0])
                ahead = tuple(first + ahead[k] for k in range(1, p)) + (first,)
                self.assertEqual(level_numbers(p, n), ahead)

    def test_as_many_as_the_counts(self):
        for p in WAYS:
            for n in range(last_told(p) + 1):
                self.assertEqual(tuple(len(reel) for reel in level_numbers(p, n)), counts_by_hand(p, n))

    def test_so_often_each_is_read(self):
        for p in WAYS:
            for n in range(last_told(p) + 1):
                reels, read = read_by_hand(p, n)
                self.assertEqual(level_numbers(p, n), read)
                self.assertEqual(sum(len(reel) for reel in reels), 1)

    def test_kinds(self):
        for p in WAYS:
            for n in (0, 1, 5, last_told(p)):
                numbers = level_numbers(p, n)
                self.assertIs(numbers.__class__, tuple)
                self.assertEqual(len(numbers), p)
                self.assertTrue(all(reel.__class__ is tuple for reel in numbers))
                self.assertTrue(all(number.__class__ is int for reel in numbers for number in reel))

    def test_the_greatest_that_is_told(self):
        self.assertEqual([last_told(p) for p in WAYS], [16, 12, 11, 11, 10, 10])
        for p in WAYS:
            self.assertEqual(sum(len(reel) for reel in level_numbers(p, last_told(p))), sum(counts_by_hand(p, last_told(p))))


class Refused(unittest.TestCase):
    def test_too_many(self):
        for p in WAYS:
            for n in (last_told(p) + 1, last_told(p) + 2, 50, 299, 300):
                with self.assertRaises(TooMany):
                    level_numbers(p, n)

    def test_no_ways(self):
        for p in NO_WAYS:
            for n in (0, 1, 16, 17, 300) + NO_LEVELS:
                with self.assertRaises(NoWays):
                    level_numbers(p, n)

    def test_no_level(self):
        for p in WAYS:
            for n in NO_LEVELS:
                with self.assertRaises(NoLevel):
                    level_numbers(p, n)


class Own(unittest.TestCase):
    def test_asked_again_the_same(self):
        for p in WAYS:
            self.assertEqual(level_numbers(p, 5), level_numbers(p, 5))
            list(level_numbers(p, 5)).clear()
            self.assertEqual(level_numbers(p, 5), read_by_hand(p, 5)[1])


if __name__ == "__main__":
    unittest.main()
