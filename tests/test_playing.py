"""[20] and [21]: fewreels.playing."""

import copy
import heapq
import random
import time
import unittest

from cases import FAR, NO_LEVELS, NO_WAYS, WAYS, counts_by_hand, last_told, lists_in, numbers_by_hand
from fewreels.errors import NoLevel, NoPhase, NoWays
from fewreels.playing import laid_reels, level_phases, play_rows


def play_by_hand(reels, phases):
    """The reels and what was read, one merging after the other, each row taken off the front."""
    reels = [[None if row is None else list(row) for row in reel] for reel in reels]
    read = []
    for out, many in phases:
        of_each = [0] * len(reels)
        for _ in range(many):
            things, real = [], False
            for at, reel in enumerate(reels):
                if at != out and reel:
                    row = reel.pop(0)
                    if row is not None:
                        real = True
                        of_each[at] += len(row)
                        things = list(heapq.merge(things, row))
            reels[out].append(things if real else None)
        read.append(of_each)
    return reels, read


def some_row(chance):
    """A row, an empty one, or an idle one."""
    kind = chance.randrange(5)
    if kind == 0:
        return None
    if kind == 1:
        return []
    return sorted(chance.randint(-9, 9) for _ in range(chance.randint(1, 5)))


def some_play(seed):
    """Reels, some of them empty, and phases that can be played there; some take of reels that run out."""
    chance = random.Random(seed)
    ways = chance.randint(2, 7)
    reels = [[some_row(chance) for _ in range(chance.randint(0, 6))] for _ in range(ways + 1)]
    reels[chance.randrange(ways + 1)] = []
    if not any(reels):
        reels[0], reels[1] = [], [some_row(chance)]
    counts = [len(reel) for reel in reels]
    phases = []
    for _ in range(chance.randint(0, 6)):
        empty = [at for at, count in enumerate(counts) if count == 0]
        if not empty:
            break
        out, many = chance.choice(empty), chance.randint(1, max(counts))
        counts = [max(0, count - many) for count in counts]
        counts[out] = many
        phases.append((out, many))
    return reels, phases


def level_reels(p, n, row_at):
    """The p + 1 reels of a level, with what row_at tells for (reel, place)."""
    return [[row_at(reel, place) for place in range(count)] for reel, count in enumerate(counts_by_hand(p, n))] + [[]]


def one_left(reels):
    """All rows that lie on the reels."""
    return [row for reel in reels for row in reel]


class Play(unittest.TestCase):
    def test_plain(self):
        reels = [[[1, 4], [3], [2, 2]], [[5], [0, 9]], []]
        self.assertEqual(play_rows(reels, [(2, 2)]), ([[[2, 2]], [], [[1, 4, 5], [0, 3, 9]]], [[3, 3, 0]]))
        self.assertEqual(play_rows(reels, [(2, 2), (1, 1), (0, 1)]),
                         ([[[0, 1, 2, 2, 3, 4, 5, 9]], [], []], [[3, 3, 0], [2, 0, 3], [0, 5, 3]]))

    def test_no_phases(self):
        reels = [[[1], None, []], [], [[2, 3]]]
        self.assertEqual(play_rows(reels, []), (reels, []))
        self.assertEqual(play_rows([[[1]], [], []], ()), ([[[1]], [], []], []))

    def test_one_row_alone(self):
        self.assertEqual(play_rows([[[1, 2]], [], []], [(1, 1)]), ([[], [[1, 2]], []], [[2, 0, 0]]))
        self.assertEqual(play_rows([[[]], [], []], [(2, 1)]), ([[], [], [[]]], [[0, 0, 0]]))
        self.assertEqual(play_rows([[], [[1], [2]], [], []], [(3, 2)]), ([[], [], [], [[1], [2]]], [[0, 2, 0, 0]]))

    def test_idle_ones(self):
        self.assertEqual(play_rows([[None], [None], []], [(2, 1)]), ([[], [], [None]], [[0, 0, 0]]))
        self.assertEqual(play_rows([[None], [], []], [(1, 1)]), ([[], [None], []], [[0, 0, 0]]))
        self.assertEqual(play_rows([[None], [[3, 4]], []], [(2, 1)]), ([[], [], [[3, 4]]], [[0, 2, 0]]))
        self.assertEqual(play_rows([[None, None], [[]], []], [(2, 2)]), ([[], [], [[], None]], [[0, 0, 0]]))
        self.assertEqual(play_rows([[None], [[]], [[]], []], [(3, 1)]), ([[], [], [], [[]]], [[0, 0, 0, 0]]))

    def test_a_reel_that_runs_out(self):
        reels = [[[1], [2], [3]], [[9]], []]
        self.assertEqual(play_rows(reels, [(2, 3)]), ([[], [], [[1, 9], [2], [3]]], [[3, 1, 0]]))
        self.assertEqual(play_rows(reels, [(2, 2), (1, 2)]), ([[], [[1, 3, 9], [2]], []], [[2, 1, 0], [1, 0, 3]]))

    def test_several_empty_reels(self):
        reels = [[[1], [2]], [], [[5], [6]], []]
        self.assertEqual(play_rows(reels, [(1, 1)]), ([[[2]], [[1, 5]], [[6]], []], [[1, 0, 1, 0]]))
        self.assertEqual(play_rows(reels, [(3, 2)]), ([[], [], [], [[1, 5], [2, 6]]], [[2, 0, 2, 0]]))

    def test_laid_behind_those_of_the_same_phase(self):
        reels = [[[3], [2], [1]], [[30], [20], [10]], []]
        self.assertEqual(play_rows(reels, [(2, 3)])[0][2], [[3, 30], [2, 20], [1, 10]])

    def test_alike_and_far_things(self):
        reels = [[[-FAR, 0, 0, FAR]], [[-FAR, 0, FAR]], []]
        self.assertEqual(play_rows(reels, [(2, 1)]),
                         ([[], [], [[-FAR, -FAR, 0, 0, 0, FAR, FAR]]], [[4, 3, 0]]))

    def test_against_one_by_one(self):
        many = 0
        for seed in range(1500):
            reels, phases = some_play(seed)
            self.assertEqual(play_rows(reels, phases), play_by_hand(reels, phases), seed)
            many += len(phases)
        self.assertGreater(many, 2000)

    def test_more_than_one_row_left_is_let(self):
        reels = [[[1], [2], [3]], [[4]], []]
        self.assertEqual(play_rows(reels, [(2, 1)])[0], [[[2], [3]], [], [[1, 4]]])


class NoSuchPhase(unittest.TestCase):
    REELS = [[[1], [2], [3]], [[4], [5]], []]
    PLAN = [(2, 2), (1, 1), (0, 1)]

    def refused_at(self, reels, phases, at):
        with self.assertRaises(NoPhase) as caught:
            play_rows(reels, phases)
        self.assertEqual(caught.exception.at, at)

    def test_the_plan_itself_is_let(self):
        self.assertEqual(one_left(play_rows(self.REELS, self.PLAN)[0]), [[1, 2, 3, 4, 5]])

    def test_the_first(self):
        for phase in ((0, 1), (1, 1), (3, 1), (-1, 1), (FAR, 1), (-FAR, 1), (10 * FAR, 1),
                      (2, 0), (2, -1), (2, 4), (2, FAR), (2, -FAR), (2, 10 * FAR), (0, 0), (3, 4)):
            self.refused_at(self.REELS, [phase], 0)
            self.refused_at(self.REELS, [phase] + self.PLAN, 0)

    def test_a_middle_one(self):
        # Behind the first phase the reels have 1, 0 and 2 rows.
        for phase in ((0, 1), (2, 1), (3, 1), (-2, 1), (1, 0), (1, -1), (1, 3), (1, FAR)):
            self.refused_at(self.REELS, [self.PLAN[0], phase], 1)
            self.refused_at(self.REELS, [self.PLAN[0], phase, self.PLAN[2]], 1)

    def test_the_last_one(self):
        # Behind two phases the reels have 0, 1 and 1 rows.
        for phase in ((1, 1), (2, 1), (3, 1), (-3, 1), (0, 0), (0, -1), (0, 2), (0, FAR)):
            self.refused_at(self.REELS, self.PLAN[:2] + [phase], 2)

    def test_one_behind_the_last(self):
        self.refused_at(self.REELS, self.PLAN + [(0, 1)], 3)
        self.refused_at(self.REELS, self.PLAN + [(1, 2)], 3)
        self.assertEqual(play_rows(self.REELS, self.PLAN + [(1, 1)])[0], [[], [[1, 2, 3, 4, 5]], []])

    def test_no_empty_reel_left(self):
        self.refused_at([[[1], [2]], [[3], [4]], []], [(2, 1), (0, 1)], 1)
        self.refused_at([[[1], [2]], [[3], [4]], []], [(2, 1), (2, 1)], 1)

    def test_the_first_of_several(self):
        self.refused_at(self.REELS, [(0, 1), (0, 0), (9, 9)], 0)
        self.refused_at(self.REELS, [(2, 2), (2, 1), (9, 9)], 1)

    def test_many_is_held_against_the_greatest_of_all(self):
        for many in range(1, 4):
            self.assertEqual(len(play_rows(self.REELS, [(2, many)])[0][2]), many)
        self.refused_at(self.REELS, [(2, 4)], 0)

    def test_what_is_refused_changes_nothing(self):
        reels, phases = copy.deepcopy(self.REELS), self.PLAN + [(0, 5)]
        self.refused_at(reels, phases, 3)
        self.assertEqual((reels, phases), (self.REELS, self.PLAN + [(0, 5)]))


def phases_by_hand(p, n):
    """The words of [21], with counts alone."""
    counts = list(counts_by_hand(p, n)) + [0]
    out = p
    phases = []
    for _ in range(n):
        least = min(count for count in counts if count)
        phases.append((out, least))
        emptied = [at for at, count in enumerate(counts) if count == least]
        counts = [max(0, count - least) for count in counts]
        counts[out] = least
        out = emptied[-1]
    return phases


def counts_by_phases(counts, phases):
    """What stands on the reels behind all phases, each written on a reel that is empty by then."""
    for out, many in phases:
        if counts[out] or not 1 <= many <= max(counts):
            return None
        counts = tuple(many if at == out else max(0, count - many) for at, count in enumerate(counts))
    return counts


class LevelPhases(unittest.TestCase):
    def test_plain(self):
        self.assertEqual(level_phases(2, 0), [])
        self.assertEqual(level_phases(2, 1), [(2, 1)])
        self.assertEqual(level_phases(2, 3), [(2, 2), (1, 1), (0, 1)])
        self.assertEqual(level_phases(2, 5), [(2, 5), (1, 3), (0, 2), (2, 1), (1, 1)])
        self.assertEqual(level_phases(3, 3), [(3, 2), (2, 1), (1, 1)])
        self.assertEqual(level_phases(7, 2), [(7, 1), (6, 1)])

    def test_every_level(self):
        for p in WAYS:
            for n in range(301):
                phases = level_phases(p, n)
                self.assertEqual(phases, phases_by_hand(p, n))
                self.assertEqual(len(phases), n)
                self.assertEqual(sorted(counts_by_phases(counts_by_hand(p, n) + (0,), phases)), [0] * p + [1])

    def test_each_of_the_least_count(self):
        for p in WAYS:
            for n in range(1, 60):
                self.assertEqual([many for _, many in level_phases(p, n)],
                                 [counts_by_hand(p, level)[-1] for level in range(n, 0, -1)])

    def test_refused(self):
        for p in NO_WAYS:
            for n in (0, 5, 300) + NO_LEVELS:
                with self.assertRaises(NoWays):
                    level_phases(p, n)
        for p in WAYS:
            for n in NO_LEVELS:
                with self.assertRaises(NoLevel):
                    level_phases(p, n)

    def test_within_a_few_seconds(self):
        start = time.perf_counter()
        for p in WAYS:
            level_phases(p, 300)
        self.assertLess(time.perf_counter() - start, 5)


class LevelPlayed(unittest.TestCase):
    def test_one_row_of_all_things(self):
        for p in WAYS:
            for n in range(last_told(p) + 1):
                reels = level_reels(p, n, lambda reel, place: [place * 7 - reel, place * 7 + 3])
                behind, read = play_rows(reels, level_phases(p, n))
                self.assertEqual(one_left(behind), [sorted(thing for row in one_left(reels) for thing in row)])
                self.assertEqual(len(read), n)
                self.assertEqual(sum(map(sum, read)), 2 * sum(map(sum, numbers_by_hand(p, n))))

    def test_each_place_is_read_as_its_number_tells(self):
        for p in WAYS:
            for n in range(7):
                phases = level_phases(p, n)
                for reel, numbers in enumerate(numbers_by_hand(p, n)):
                    for place, number in enumerate(numbers):
                        for other in (None, []):
                            reels = level_reels(p, n, lambda at, by: [5, 6, 6] if (at, by) == (reel, place) else other)
                            behind, read = play_rows(reels, phases)
                            self.assertEqual(sum(map(sum, read)), 3 * number)
                            self.assertEqual(one_left(behind), [[5, 6, 6]])

    def test_with_idle_rows_and_any_lengths(self):
        chance = random.Random(21)
        for p in WAYS:
            for n in range(8):
                reels = level_reels(p, n, lambda reel, place: some_row(chance))
                told = sum(len(row) * number for reel, numbers in zip(reels, numbers_by_hand(p, n))
                           for row, number in zip(reel, numbers) if row is not None)
                behind, read = play_rows(reels, level_phases(p, n))
                self.assertEqual((behind, read), play_by_hand(reels, level_phases(p, n)))
                self.assertEqual(sum(map(sum, read)), told)

    def test_all_idle(self):
        for p in WAYS:
            for n in range(6):
                behind, read = play_rows(level_reels(p, n, lambda reel, place: None), level_phases(p, n))
                self.assertEqual(one_left(behind), [None])
                self.assertEqual(read, [[0] * (p + 1)] * n)

    def test_four_thousand_places_within_a_few_seconds(self):
        for p in WAYS:
            n = last_told(p)
            reels = level_reels(p, n, lambda reel, place: list(range(place, place + 10)))
            start = time.perf_counter()
            behind, read = play_rows(reels, level_phases(p, n))
            self.assertLess(time.perf_counter() - start, 5)
            self.assertEqual(len(one_left(behind)[0]), 10 * sum(counts_by_hand(p, n)))


class LaidReels(unittest.TestCase):
    def test_plain(self):
        self.assertEqual(laid_reels(((True, False), (True,)), [[1, 2], [3]]), [[[1, 2], None], [[3]], []])
        self.assertEqual(laid_reels(((False, True, True), (), (False,)), [[7], []]), [[None, [7], []], [], [None], []])
        self.assertEqual(laid_reels(((False,), ()), []), [[None], [], []])
        self.assertEqual(laid_reels(((True,),) + ((),) * 6, [[]]), [[[]]] + [[]] * 7)

    def test_rows_in_order_reel_by_reel(self):
        chance = random.Random(9)
        for p in WAYS:
            for n in range(8):
                laying = tuple(tuple(chance.random() < 0.6 for _ in range(count)) for count in counts_by_hand(p, n))
                rows = [[k, k + 1] for k in range(sum(map(sum, laying)))]
                reels = laid_reels(laying, rows)
                self.assertEqual(len(reels), p + 1)
                self.assertEqual(reels[-1], [])
                self.assertEqual([[row is not None for row in reel] for reel in reels[:-1]], [list(reel) for reel in laying])
                self.assertEqual([row for row in one_left(reels) if row is not None], rows)

    def test_played(self):
        chance = random.Random(10)
        for p in WAYS:
            for n in range(1, 8):
                laying = [[chance.random() < 0.6 for _ in range(count)] for count in counts_by_hand(p, n)]
                laying[0][0] = True
                laying = tuple(tuple(reel) for reel in laying)
                rows = [sorted(chance.randint(0, 99) for _ in range(4)) for _ in range(sum(map(sum, laying)))]
                behind, read = play_rows(laid_reels(laying, rows), level_phases(p, n))
                self.assertEqual(one_left(behind), [sorted(thing for row in rows for thing in row)])
                told = sum(number for numbers, reals in zip(numbers_by_hand(p, n), laying)
                           for number, real in zip(numbers, reals) if real)
                self.assertEqual(sum(map(sum, read)), 4 * told)

    def test_a_level_of_four_thousand_places(self):
        laying = tuple((True,) * count for count in counts_by_hand(2, last_told(2)))
        rows = [[k] for k in range(sum(counts_by_hand(2, last_told(2))))]
        start = time.perf_counter()
        self.assertEqual(one_left(laid_reels(laying, rows)), rows)
        self.assertLess(time.perf_counter() - start, 5)


class Own(unittest.TestCase):
    def test_tuples_do_as_lists(self):
        for seed in range(200):
            reels, phases = some_play(seed)
            tuples = tuple(tuple(None if row is None else tuple(row) for row in reel) for reel in reels)
            told = play_rows(tuples, tuple(phases))
            self.assertEqual(told, play_rows(reels, phases))
            for reel in told[0]:
                self.assertIs(type(reel), list)
                for row in reel:
                    self.assertTrue(row is None or type(row) is list)
        self.assertEqual(laid_reels(((True, False), (True,)), ((1, 2), (3,))), [[[1, 2], None], [[3]], []])
        self.assertIs(type(laid_reels(((True,), ()), ((1, 2),))[0][0]), list)

    def test_kinds(self):
        told = play_rows([[[1], [2]], [[3]], []], [(2, 2)])
        self.assertIs(type(told), tuple)
        self.assertEqual([type(each) for each in told], [list, list])
        self.assertEqual([type(each) for each in told[1]], [list])
        self.assertEqual([type(each) for each in level_phases(2, 3)], [tuple] * 3)
        self.assertIs(type(level_phases(2, 0)), list)

    def test_what_is_handed_in_stays(self):
        for seed in range(200):
            handed = some_play(seed)
            kept = copy.deepcopy(handed)
            play_rows(handed[0], handed[1])
            self.assertEqual(handed, kept)
        laying, rows = ((True, False), (True,)), [[1, 2], [3]]
        laid_reels(laying, rows)
        self.assertEqual((laying, rows), (((True, False), (True,)), [[1, 2], [3]]))

    def test_no_list_told_is_one_handed_in_or_told_twice(self):
        for seed in range(300):
            handed = some_play(seed)
            told = play_rows(handed[0], handed[1])
            all_of_them = lists_in(handed) + lists_in(told)
            self.assertEqual(len({id(each) for each in all_of_them}), len(all_of_them))
        row = [1, 2]
        for reels in ([[row], [], []], [[row], [row], []]):
            behind, _ = play_rows(reels, [])
            self.assertFalse(any(each is row for each in lists_in(behind)))
            self.assertEqual(len({id(each) for each in lists_in(behind)}), len(lists_in(behind)))
        reels = laid_reels(((True, True), (True,)), [row, row, row])
        self.assertEqual(len({id(each) for each in lists_in(reels) + [row]}), 8)

    def test_what_was_told_is_the_askers(self):
        reels = [[[1], [2]], [[3]], []]
        behind, read = play_rows(reels, [(2, 1)])
        behind[0][0].append(9)
        read[0].append(9)
        self.assertEqual(play_rows(reels, [(2, 1)]), ([[[2]], [], [[1, 3]]], [[1, 1, 0]]))
        told = level_phases(3, 4)
        told.append(None)
        self.assertEqual(len(level_phases(3, 4)), 4)

    def test_what_was_told_may_be_handed_in_again(self):
        for p in (2, 3, 7):
            reels = level_reels(p, 5, lambda reel, place: [place, place + reel])
            phases = level_phases(p, 5)
            ahead, _ = play_rows(reels, phases[:2])
            self.assertEqual(play_rows(ahead, phases[2:])[0], play_rows(reels, phases)[0])


if __name__ == "__main__":
    unittest.main()
