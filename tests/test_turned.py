"""[22] and [23]: fewreels.turned."""

import copy
import functools
import itertools
import random
import time
import unittest

from cases import FAR, NO_LEVELS, NO_WAYS, WAYS, counts_by_hand, last_told, lists_in, numbers_by_hand
from fewreels.errors import Clash, NoLevel, NoWays, TooMany
from fewreels.turned import turned_numbers, turned_play, turned_ups


@functools.lru_cache(maxsize=None)
def turned_by_hand(p, n):
    """The words of [22]."""
    if n == 0:
        return ((0,),) + ((),) * (p - 1)
    ahead = turned_by_hand(p, n - 1) + ((),)
    return tuple(ahead[k + 1] + tuple(number + 1 for number in reversed(ahead[0])) for k in range(p))


class Stop(Exception):
    """A merging whose rows don't go one way."""


def merged_by_hand(rows, at):
    """What is written where rows are read from their last things on, thing by thing."""
    rows = [row for row in rows if row is not None]
    if not rows:
        return None, 0
    up = rows[0][0]
    if any(row[0] != up for row in rows):
        raise Stop(at)
    left = [list(things) for _, things in rows]
    written = []
    while any(left):
        ends = [things[-1] for things in left if things]
        end = max(ends) if up else min(ends)
        for things in left:
            if things and things[-1] == end:
                written.append(things.pop())
                break
    return (not up, written)


def play_by_hand(p, n, reels):
    """The last row and what is read of each reel, one merging after the other; Stop where rows clash."""
    stacks = [list(reel) for reel in reels] + [[]]
    read = [0] * (p + 1)
    out, at = p, 0
    for _ in range(n):
        others = [reel for reel in range(p + 1) if reel != out]
        emptied = None
        while emptied is None:
            rows = []
            for reel in others:
                row = stacks[reel].pop()
                read[reel] += 0 if row is None else len(row[1])
                rows.append(row)
            stacks[out].append(None if not any(row is not None for row in rows) else merged_by_hand(rows, at))
            at += 1
            emptied = next((reel for reel in reversed(others) if not stacks[reel]), None)
        out = emptied
    (last,) = [row for stack in stacks for row in stack]
    return last, read


def turned_row(up, things):
    return (up, sorted(things, reverse=not up))


def right_reels(p, n, things_at):
    """The reels of a level whose rows go as the turned numbers tell; None where things_at tells None."""
    reels = []
    for reel, numbers in enumerate(turned_by_hand(p, n)):
        rows = []
        for place, number in enumerate(numbers):
            things = things_at(reel, place)
            rows.append(None if things is None else turned_row(number % 2 == 0, things))
        reels.append(rows)
    return reels


def other_way(row):
    return None if row is None else (not row[0], row[1][::-1])


def things_of(reels):
    return sorted(thing for reel in reels for row in reel if row is not None for thing in row[1])


def some_things(chance):
    kind = chance.randrange(5)
    if kind == 0:
        return None
    return [chance.randint(-9, 9) for _ in range(chance.randint(0, 4))]


class Numbers(unittest.TestCase):
    def test_plain(self):
        self.assertEqual(turned_numbers(2, 0), [[0], []])
        self.assertEqual(turned_numbers(2, 1), [[1], [1]])
        self.assertEqual(turned_numbers(2, 2), [[1, 2], [2]])
        self.assertEqual(turned_numbers(2, 3), [[2, 3, 2], [3, 2]])
        self.assertEqual(turned_numbers(3, 2), [[1, 2], [1, 2], [2]])
        self.assertEqual(turned_numbers(3, 3), [[1, 2, 3, 2], [2, 3, 2], [3, 2]])

    def test_by_the_words(self):
        for p in WAYS:
            for n in range(last_told(p) + 1):
                self.assertEqual(turned_numbers(p, n), [list(reel) for reel in turned_by_hand(p, n)])

    def test_as_many_of_each_as_in_stage_five(self):
        for p in WAYS:
            for n in range(last_told(p) + 1):
                self.assertEqual([sorted(reel) for reel in turned_numbers(p, n)],
                                 [sorted(reel) for reel in numbers_by_hand(p, n)])

    def test_ups(self):
        self.assertEqual(turned_ups(2, 0), [[True], []])
        self.assertEqual(turned_ups(2, 1), [[False], [False]])
        self.assertEqual(turned_ups(2, 3), [[True, False, True], [False, True]])
        for p in WAYS:
            for n in range(last_told(p) + 1):
                self.assertEqual(turned_ups(p, n), [[number in range(0, 400, 2) for number in reel]
                                                    for reel in turned_by_hand(p, n)])

    def test_each_row_is_read_as_its_number_tells(self):
        for p in WAYS:
            for n in range(6):
                for reel, numbers in enumerate(turned_numbers(p, n)):
                    for place, number in enumerate(numbers):
                        reels = right_reels(p, n, lambda at, by: [4, 5] if (at, by) == (reel, place) else None)
                        row, read = turned_play(p, reels)
                        self.assertEqual(row, (True, [4, 5]))
                        self.assertEqual(sum(read), 2 * number)

    def test_refused(self):
        for ask in (turned_numbers, turned_ups):
            for p in NO_WAYS:
                for n in (0, 17, 300) + NO_LEVELS:
                    with self.assertRaises(NoWays):
                        ask(p, n)
            for p in WAYS:
                for n in NO_LEVELS:
                    with self.assertRaises(NoLevel):
                        ask(p, n)
                for n in (last_told(p) + 1, 100, 300):
                    with self.assertRaises(TooMany):
                        ask(p, n)

    def test_four_thousand_places_within_a_few_seconds(self):
        start = time.perf_counter()
        for p in WAYS:
            turned_numbers(p, last_told(p))
            turned_ups(p, last_told(p))
        self.assertLess(time.perf_counter() - start, 5)


class Play(unittest.TestCase):
    def test_plain(self):
        self.assertEqual(turned_play(2, [[(False, [5, 1])], [(False, [3])]]), ((True, [1, 3, 5]), [2, 1, 0]))
        self.assertEqual(turned_play(2, [[(True, [1, 5])], [(True, [3])]]), ((False, [5, 3, 1]), [2, 1, 0]))
        # By level 2 the row laid last is read first: (True, [1]) and (True, [2]), then what lies below.
        self.assertEqual(turned_play(2, [[(False, [9, 7]), (True, [1])], [(True, [2])]]),
                         ((True, [1, 2, 7, 9]), [3, 1, 2]))

    def test_level_zero(self):
        for p in WAYS:
            empty = [[]] * (p - 1)
            self.assertEqual(turned_play(p, [[(True, [1, 2])]] + empty), ((True, [1, 2]), [0] * (p + 1)))
            self.assertEqual(turned_play(p, [[(False, [2, 1])]] + empty), ((False, [2, 1]), [0] * (p + 1)))
            self.assertEqual(turned_play(p, [[(False, [])]] + empty), ((False, []), [0] * (p + 1)))
            self.assertEqual(turned_play(p, [[None]] + empty), (None, [0] * (p + 1)))

    def test_against_thing_by_thing(self):
        chance = random.Random(22)
        for p in WAYS:
            for n in range(8):
                for _ in range(6):
                    reels = right_reels(p, n, lambda reel, place: some_things(chance))
                    self.assertEqual(turned_play(p, reels), play_by_hand(p, n, reels))

    def test_the_last_row_rises(self):
        chance = random.Random(23)
        for p in WAYS:
            for n in range(last_told(p) + 1):
                reels = right_reels(p, n, lambda reel, place: [chance.randint(0, 999), chance.randint(0, 999)])
                row, read = turned_play(p, reels)
                self.assertEqual(row, (True, things_of(reels)))
                self.assertEqual(sum(read), 2 * sum(map(sum, turned_by_hand(p, n))))

    def test_every_row_the_other_way_about(self):
        chance = random.Random(24)
        for p in WAYS:
            for n in range(9):
                reels = right_reels(p, n, lambda reel, place: [chance.randint(0, 99)] * chance.randint(0, 3))
                told = turned_play(p, reels)
                turned = turned_play(p, [[other_way(row) for row in reel] for reel in reels])
                self.assertEqual(turned, ((False, told[0][1][::-1]), told[1]))

    def test_empty_rows(self):
        for p in WAYS:
            for n in range(8):
                self.assertEqual(turned_play(p, right_reels(p, n, lambda reel, place: [])), ((True, []), [0] * (p + 1)))

    def test_all_idle(self):
        for p in WAYS:
            for n in range(8):
                self.assertEqual(turned_play(p, right_reels(p, n, lambda reel, place: None)), (None, [0] * (p + 1)))

    def test_what_is_read_of_each_reel(self):
        # Level 3 of two ways: 2 onto the last reel, 1 onto the middle one, 1 onto the first.
        reels = right_reels(2, 3, lambda reel, place: [1] * (10 ** (3 * reel + place)))
        self.assertEqual([len(row[1]) for reel in reels for row in reel], [1, 10, 100, 1000, 10000])
        row, read = turned_play(2, reels)
        # Of reel 2 first the 1010 things laid last are read, then the 10100 that lie below.
        self.assertEqual(read, [100 + 10 + 1, 10000 + 1000 + 1011, 1010 + 10100])
        self.assertEqual(len(row[1]), 11111)

    def test_four_thousand_places_within_a_few_seconds(self):
        for p in WAYS:
            n = last_told(p)
            reels = right_reels(p, n, lambda reel, place: range(place, place + 10))
            start = time.perf_counter()
            row, read = turned_play(p, reels)
            self.assertLess(time.perf_counter() - start, 5)
            self.assertEqual(len(row[1]), 10 * sum(counts_by_hand(p, n)))


class Clashes(unittest.TestCase):
    def at_of(self, p, reels):
        """The merging at which the rows clash, None where none do."""
        try:
            turned_play(p, reels)
        except Clash as clash:
            return clash.at
        return None

    def at_by_hand(self, p, n, reels):
        try:
            play_by_hand(p, n, reels)
        except Stop as stop:
            return stop.args[0]
        return None

    def test_plain(self):
        self.assertEqual(self.at_of(2, [[(True, [1])], [(False, [1])]]), 0)
        self.assertEqual(self.at_of(2, [[(True, [])], [(False, [])]]), 0)
        self.assertEqual(self.at_of(3, [[(True, [1])], [None], [(False, [2])]]), 0)
        # Level 2: the first merging's rows go one way, but what they make doesn't go with the row below.
        self.assertEqual(self.at_of(2, [[(True, [9]), (True, [1])], [(True, [2])]]), 1)
        self.assertEqual(self.at_of(2, [[(False, [9]), (False, [1])], [(True, [2])]]), 0)

    def test_one_row_turned(self):
        told = set()
        for p in WAYS:
            for n in range(1, 7):
                reels = right_reels(p, n, lambda reel, place: [place])
                for reel in range(p):
                    for place in range(len(reels[reel])):
                        spoilt = copy.deepcopy(reels)
                        spoilt[reel][place] = other_way(spoilt[reel][place])
                        at = self.at_of(p, spoilt)
                        self.assertEqual(at, self.at_by_hand(p, n, spoilt), (p, n, reel, place))
                        self.assertIsNotNone(at)
                        told.add(at)
        self.assertGreater(len(told), 20)

    def test_every_choice_of_small_levels(self):
        for p, n in ((2, 0), (2, 1), (2, 2), (2, 3), (2, 4), (3, 1), (3, 2), (3, 3), (4, 1), (4, 2), (5, 2), (7, 1)):
            right = [up for reel in turned_ups(p, n) for up in reel]
            counts = counts_by_hand(p, n)
            for ups in itertools.product((True, False), repeat=len(right)):
                rows = iter(ups)
                reels = [[(next(rows), [3]) for _ in range(count)] for count in counts]
                at = self.at_of(p, reels)
                lets = list(ups) in (right, [not up for up in right])
                self.assertEqual(at is None, lets)
                self.assertEqual(at, self.at_by_hand(p, n, reels))
                if lets:
                    self.assertIs(turned_play(p, reels)[0][0], list(ups) == right)

    def test_idle_rows_aside(self):
        chance = random.Random(25)
        lets = 0
        for seed in range(600):
            p, n = chance.choice(WAYS), chance.randint(1, 4)
            reels = [[None if chance.random() < 0.7 else turned_row(chance.random() < 0.5, [chance.randint(0, 9)])
                      for _ in range(count)] for count in counts_by_hand(p, n)]
            at = self.at_of(p, reels)
            self.assertEqual(at, self.at_by_hand(p, n, reels))
            if at is None:
                self.assertEqual(turned_play(p, reels), play_by_hand(p, n, reels))
                lets += 1
        self.assertGreater(lets, 100)
        self.assertLess(lets, 500)

    def test_a_row_alone_with_idle_ones_goes_either_way(self):
        for p in WAYS:
            for n in range(5):
                for reel, numbers in enumerate(turned_by_hand(p, n)):
                    for place, number in enumerate(numbers):
                        for up in (True, False):
                            reels = right_reels(p, n, lambda at, by: None)
                            reels[reel][place] = turned_row(up, [1, 2])
                            rises = up == (number % 2 == 0)
                            self.assertEqual(turned_play(p, reels)[0], turned_row(rises, [1, 2]))

    def test_up_counts_not_the_things(self):
        # Of one thing or none the things alone don't tell which way a row goes.
        for things in ([], [4], [4, 4]):
            self.assertEqual(self.at_of(2, [[(True, things)], [(False, things)]]), 0)
            self.assertIsNone(self.at_of(2, [[(False, things)], [(False, things)]]))


class Levels(unittest.TestCase):
    def refused(self, p, reels):
        with self.assertRaises(NoLevel):
            turned_play(p, reels)

    def test_no_ways_first(self):
        for p in NO_WAYS:
            for reels in ([[(True, [1])], [(False, [1])]], [[], []], [[(True, [1])], []], []):
                with self.assertRaises(NoWays):
                    turned_play(p, reels)

    def test_all_empty(self):
        for p in WAYS:
            self.refused(p, [[]] * p)

    def test_a_row_more_or_less(self):
        for p in WAYS:
            counts_told = {counts_by_hand(p, n) for n in range(12)}
            for n in range(6):
                for reel in range(p):
                    for step in (-1, 1):
                        counts = list(counts_by_hand(p, n))
                        counts[reel] += step
                        if counts[reel] < 0 or tuple(counts) in counts_told:
                            continue
                        for row in (None, (True, [1]), (False, [])):
                            self.refused(p, [[row] * count for count in counts])

    def test_two_reels_exchanged(self):
        for p in WAYS:
            for n in range(6):
                counts = counts_by_hand(p, n)
                for one, other in itertools.combinations(range(p), 2):
                    if counts[one] != counts[other]:
                        turned = list(counts)
                        turned[one], turned[other] = turned[other], turned[one]
                        self.refused(p, [[None] * count for count in turned])
                        self.refused(p, [[(True, [1])] * count for count in turned])

    def test_another_number_of_reels(self):
        for p in WAYS:
            counts = counts_by_hand(p, 3)
            self.refused(p, [[None] * count for count in counts] + [[]])
            self.refused(p, [[None] * count for count in counts[:-1]])

    def test_counts_of_other_ways(self):
        for p in WAYS:
            for other in WAYS:
                if other != p:
                    self.refused(p, [[None] * count for count in counts_by_hand(other, 4)])

    def test_no_level_ahead_of_clash(self):
        self.refused(2, [[(True, [1])], [(False, [1]), (True, [2])]])
        self.refused(3, [[(True, [1])], [(False, [1])], []])


class Own(unittest.TestCase):
    def some_reels(self):
        chance = random.Random(26)
        for p in WAYS:
            for n in range(5):
                yield p, right_reels(p, n, lambda reel, place: some_things(chance))

    def test_tuples_do_as_lists(self):
        for p, reels in self.some_reels():
            tuples = tuple(tuple(None if row is None else (row[0], tuple(row[1])) for row in reel) for reel in reels)
            told = turned_play(p, tuples)
            self.assertEqual(told, turned_play(p, reels))
            if told[0] is not None:
                self.assertIs(type(told[0]), tuple)
                self.assertIs(type(told[0][0]), bool)
                self.assertIs(type(told[0][1]), list)
            self.assertIs(type(told[1]), list)
        self.assertEqual(turned_play(2, [[(True, (1, 2))], []]), ((True, [1, 2]), [0, 0, 0]))
        self.assertIs(type(turned_play(2, [[(True, (1, 2))], []])[0][1]), list)

    def test_what_is_handed_in_stays(self):
        for p, reels in self.some_reels():
            kept = copy.deepcopy(reels)
            turned_play(p, reels)
            self.assertEqual(reels, kept)
        reels = [[(True, [9]), (True, [1])], [(True, [2])]]
        with self.assertRaises(Clash):
            turned_play(2, reels)
        self.assertEqual(reels, [[(True, [9]), (True, [1])], [(True, [2])]])

    def test_no_list_told_is_one_handed_in(self):
        for p, reels in self.some_reels():
            all_of_them = lists_in(reels) + lists_in(turned_play(p, reels))
            self.assertEqual(len({id(each) for each in all_of_them}), len(all_of_them))
        things = [1, 2]
        for p in WAYS:
            self.assertIsNot(turned_play(p, [[(True, things)]] + [[]] * (p - 1))[0][1], things)

    def test_what_was_told_is_the_askers(self):
        for ask in (turned_numbers, turned_ups):
            for p in WAYS:
                for n in (0, 1, 4):
                    told = ask(p, n)
                    kept = copy.deepcopy(told)
                    self.assertEqual(len({id(reel) for reel in lists_in(told)}), p + 1)
                    self.assertEqual([type(reel) for reel in told], [list] * p)
                    for reel in told:
                        reel.append(None)
                    told.append(None)
                    self.assertEqual(ask(p, n), kept)

    def test_far_things(self):
        self.assertEqual(turned_play(2, [[(False, [FAR, -FAR])], [(False, [0])]]), ((True, [-FAR, 0, FAR]), [2, 1, 0]))


if __name__ == "__main__":
    unittest.main()
