"""[26] and [27]: fewreels.joins."""

import copy
import fractions
import functools
import itertools
import random
import time
import unittest

from cases import FAR, NO_WAYS, WAYS, lists_in
from fewreels.errors import NoWays
from fewreels.joins import join_numbers, join_right, least_join, numbers_join

MOST = 10 ** 12


def some_lengths(seed, many, bound):
    chance = random.Random(seed)
    return [chance.randint(0, bound) for _ in range(many)]


def many_lengths():
    """One to sixty lengths, alike and unlike, with 0 and 10 ** 12."""
    for many in range(1, 61):
        yield [1] * many
        yield some_lengths(many, many, 3)
        yield some_lengths(many, many, MOST)
        yield [MOST if k % 3 else 0 for k in range(many)]
        yield [k * 7919 % 61 for k in range(many)]


def least_gone_through(p, lengths):
    """The least log, each thing it takes looked for one by one."""
    there = dict(enumerate(lengths))
    behind = len(lengths)
    many = 2 + (len(lengths) - 2) % (p - 1)
    log, reading = [], 0
    while len(there) > 1:
        taken = []
        for _ in range(many):
            least = None
            for number in sorted(there):
                if number not in taken and (least is None or there[number] < there[least]):
                    least = number
            taken.append(least)
        made = sum(there.pop(number) for number in taken)
        there[behind] = made
        behind += 1
        reading += made
        log.append(tuple(sorted(taken)))
        many = p
    return reading, log


@functools.lru_cache(maxsize=None)
def least_of_all(p, lengths):
    """The least reading of any log of a sorted tuple of lengths, all joinings gone through."""
    if len(lengths) == 1:
        return 0
    best = None
    for many in range(2, min(p, len(lengths)) + 1):
        for taken in set(itertools.combinations(range(len(lengths)), many)):
            made = sum(lengths[at] for at in taken)
            rest = [length for at, length in enumerate(lengths) if at not in taken]
            reading = made + least_of_all(p, tuple(sorted(rest + [made])))
            best = reading if best is None else min(best, reading)
    return best


def all_logs(p, rows):
    """Every log of so many rows."""
    def go_on(there, behind):
        if len(there) == 1:
            yield []
            return
        for many in range(2, min(p, len(there)) + 1):
            for taken in itertools.combinations(there, many):
                rest = [number for number in there if number not in taken] + [behind]
                for more in go_on(rest, behind + 1):
                    yield [taken] + more
    return go_on(list(range(rows)), rows)


def is_log(p, rows, log):
    """Whether it is a log, straight from the words of [26]."""
    there = set(range(rows))
    for at, joining in enumerate(log):
        if type(joining) is not tuple or not 2 <= len(joining) <= p:
            return False
        if list(joining) != sorted(set(joining)) or not set(joining) <= there:
            return False
        there -= set(joining)
        there.add(rows + at)
    return len(there) == 1


def read_by(rows, log):
    """How often each row is read: the rows in each joining, counted."""
    inside = {row: {row} for row in range(rows)}
    read = [0] * rows
    for at, joining in enumerate(log):
        inside[rows + at] = set().union(*(inside[number] for number in joining))
        for row in inside[rows + at]:
            read[row] += 1
    return read


def reading_by(lengths, log):
    return sum(length * times for length, times in zip(lengths, read_by(len(lengths), log)))


def takes_as_told(p, lengths, log):
    """Whether each joining of a log takes as many as told, and least ones."""
    there = dict(enumerate(lengths))
    for at, joining in enumerate(log):
        if len(joining) != (p if at else (len(lengths) - 2) % (p - 1) + 2):
            return False
        taken = [there.pop(number) for number in joining]
        if there and max(taken) > min(there.values()):
            return False
        there[len(lengths) + at] = sum(taken)
    return True


class Least(unittest.TestCase):
    def test_plain(self):
        self.assertEqual(least_join(2, [4, 6, 1]), (16, [(0, 2), (1, 3)]))
        self.assertEqual(least_join(3, [4, 6, 1]), (11, [(0, 1, 2)]))
        self.assertEqual(least_join(3, [5, 1, 1, 9]), (18, [(1, 2), (0, 3, 4)]))
        self.assertEqual(least_join(2, [1, 1, 1, 1]), (8, [(0, 1), (2, 3), (4, 5)]))
        self.assertEqual(least_join(4, [1] * 5), (7, [(0, 1), (2, 3, 4, 5)]))

    def test_one_row(self):
        for p in WAYS:
            for length in (0, 1, MOST):
                self.assertEqual(least_join(p, [length]), (0, []))

    def test_of_several_those_of_the_least_numbers(self):
        # What the first joining makes is as long as two of the rows, and comes behind them.
        self.assertEqual(least_join(2, [1, 1, 2, 2]), (12, [(0, 1), (2, 3), (4, 5)]))
        self.assertEqual(least_join(2, [2, 2, 1, 1]), (12, [(2, 3), (0, 1), (4, 5)]))
        self.assertEqual(least_join(3, [0, 0, 0, 0]), (0, [(0, 1), (2, 3, 4)]))

    def test_gone_through(self):
        for p in WAYS:
            for lengths in many_lengths():
                self.assertEqual(least_join(p, lengths), least_gone_through(p, lengths))

    def test_how_many_each_takes(self):
        for p in WAYS:
            for rows in range(2, 61):
                sizes = [len(joining) for joining in least_join(p, [3] * rows)[1]]
                self.assertEqual(sizes[0], (rows - 2) % (p - 1) + 2)
                self.assertEqual(sizes[1:], [p] * ((rows - sizes[0]) // (p - 1)))

    def test_a_log_and_its_reading(self):
        for p in WAYS:
            for lengths in many_lengths():
                reading, log = least_join(p, lengths)
                self.assertTrue(is_log(p, len(lengths), log))
                self.assertEqual(reading_by(lengths, log), reading)

    def test_no_log_reads_less(self):
        chance = random.Random(26)
        for p in (2, 3, 4, 7):
            for many in range(1, 7):
                for _ in range(12):
                    lengths = [chance.choice((0, 1, 1, 2, 3, 5, 8, 100)) for _ in range(many)]
                    self.assertEqual(least_join(p, lengths)[0], least_of_all(p, tuple(sorted(lengths))))
        for p, lengths in ((2, [3, 1, 2, 2]), (3, [3, 1, 2, 2, 9]), (4, [0, 0, 5, 5, 1])):
            readings = [reading_by(lengths, log) for log in all_logs(p, len(lengths))]
            self.assertEqual(min(readings), least_join(p, lengths)[0])

    def test_sixty_of_the_longest_within_a_few_seconds(self):
        start = time.perf_counter()
        for p in WAYS:
            told = least_join(p, [MOST] * 60)
            self.assertIs(join_right(p, [MOST] * 60, told), True)
        self.assertLess(time.perf_counter() - start, 5)


class Right(unittest.TestCase):
    def test_the_told_pair(self):
        for p in WAYS:
            for lengths in many_lengths():
                reading, log = least_join(p, lengths)
                self.assertIs(join_right(p, lengths, (reading, log)), True)
                self.assertIs(join_right(p, tuple(lengths), (reading, tuple(log))), True)

    def test_another_of_least_ones(self):
        self.assertIs(join_right(2, [1, 1, 1, 1], (8, [(1, 3), (0, 2), (4, 5)])), True)
        self.assertIs(join_right(2, [1, 1, 2, 2], (12, [(0, 1), (2, 4), (3, 5)])), True)
        self.assertIs(join_right(3, [0] * 5, (0, [(1, 2, 4), (0, 3, 5)])), True)
        # Of several alike ones the last is taken in place of the first.
        others = 0
        for p in WAYS:
            for rows in range(2, 61):
                lengths = [4] * rows
                reading, log = least_join(p, lengths)
                turned = [tuple(sorted(rows - 1 - number if number < rows else number for number in joining))
                          for joining in log]
                others += turned != log
                self.assertIs(join_right(p, lengths, (reading, turned)), True)
        self.assertGreater(others, 200)

    def test_every_log_of_small_cases(self):
        cases = [(2, [1, 1, 1, 1]), (2, [0, 0, 3, 1]), (2, [5, 4, 9, 9]), (2, [1, 1, 2, 2, 3]), (3, [1, 1, 1, 1]),
                 (3, [2, 1, 1, 7]), (3, [1, 1, 1, 1, 1]), (3, [0, 2, 2, 2, 0]), (4, [1, 1, 1, 1, 1]), (4, [3, 3, 3, 9]),
                 (7, [1, 1, 2, 2]), (5, [1, 2, 3]), (2, [7]), (3, [7])]
        for p, lengths in cases:
            right = 0
            for log in all_logs(p, len(lengths)):
                reading = reading_by(lengths, log)
                holds = takes_as_told(p, lengths, log)
                right += holds
                self.assertIs(join_right(p, lengths, (reading, log)), holds, (p, lengths, log))
                self.assertIs(join_right(p, lengths, (reading + 1, log)), False)
                self.assertIs(join_right(p, lengths, (reading - 1, log)), False)
                self.assertFalse(holds and reading != least_join(p, lengths)[0])
            self.assertGreater(right, 0)

    def test_as_little_but_not_as_told(self):
        # All of these read nothing, but of four rows the first joining has to take two, the next one three.
        self.assertIs(join_right(3, [0, 0, 0, 0], (0, [(0, 1), (2, 3, 4)])), True)
        self.assertIs(join_right(3, [0, 0, 0, 0], (0, [(0, 1, 2), (3, 4)])), False)
        self.assertIs(join_right(3, [0, 0, 0, 0], (0, [(0, 1), (2, 4), (3, 5)])), False)

    def test_the_reading_spoilt(self):
        for p in WAYS:
            for lengths in ([5], [4, 6, 1], [3] * 17, some_lengths(3, 60, MOST)):
                reading, log = least_join(p, lengths)
                for other in (reading - 1, reading + 1, -reading - 1, FAR, -FAR, None):
                    self.assertIs(join_right(p, lengths, (other, log)), False)

    def test_each_joining_spoilt(self):
        for p in WAYS:
            for lengths in ([4, 6], [4, 6, 1], [3] * 9, some_lengths(4, 20, 50)):
                reading, log = least_join(p, lengths)
                for at, joining in enumerate(log):
                    others = [joining[1:], joining[:-1], joining + joining[-1:], joining[::-1], list(joining), (), joining[:1],
                              joining[:1] + joining[:1] + joining[2:], joining[:-1] + (len(lengths) + at,),
                              joining[:-1] + (len(lengths) + len(log),), joining[:-1] + (FAR,), (-1,) + joining[1:],
                              (-FAR,) + joining[1:], joining + (FAR,), (-len(lengths),) + joining[1:],
                              tuple(range(p + 1)), tuple(range(60))]
                    for other in others:
                        if other != joining or type(other) is not tuple:
                            self.assertIs(join_right(p, lengths, (reading, log[:at] + [other] + log[at + 1:])), False)

    def test_a_joining_more_or_less(self):
        for p in WAYS:
            for lengths in ([5], [4, 6, 1], [3] * 17, some_lengths(3, 60, MOST)):
                reading, log = least_join(p, lengths)
                last = len(lengths) + len(log) - 1
                for more in ((last,), (0, 1), (last, last + 1), tuple(range(p)), ()):
                    self.assertIs(join_right(p, lengths, (reading, log + [more])), False)
                    self.assertIs(join_right(p, lengths, (reading, [more] + log)), False)
                if log:
                    self.assertIs(join_right(p, lengths, (reading, log[:-1])), False)
                    self.assertIs(join_right(p, lengths, (reading, log[1:])), False)
                    self.assertIs(join_right(p, lengths, (reading, [])), False)

    def test_a_number_twice(self):
        # Each takes lengths as short as the least, and in the end one is left.
        self.assertIs(join_right(2, [0, 0], (0, [(0, 0), (1, 2)])), False)
        self.assertIs(join_right(2, [3, 3], (15, [(0, 0), (1, 2)])), False)
        self.assertIs(join_right(3, [2, 2, 2], (12, [(0, 0, 1), (2, 3, 3)])), False)
        self.assertIs(join_right(3, [0, 0, 0], (0, [(0, 1, 1), (2, 3, 3)])), False)

    def test_cut_short_with_the_reading_so_far(self):
        for p in WAYS:
            for lengths in ([0, 0], [4, 6, 1], [0] * 17, [3] * 17, some_lengths(3, 60, MOST)):
                _, log = least_join(p, lengths)
                made = list(lengths)
                readings = [0]
                for joining in log:
                    made.append(sum(made[number] for number in joining))
                    readings.append(readings[-1] + made[-1])
                for many in range(len(log)):
                    self.assertIs(join_right(p, lengths, (readings[many], log[:many])), False)
                self.assertIs(join_right(p, lengths, (readings[-1], log)), True)

    def test_another_least_number_exchanged(self):
        # A longer one is taken in place of the least.
        self.assertIs(join_right(2, [4, 6, 1], (17, [(0, 1), (2, 3)])), False)
        self.assertIs(join_right(2, [4, 6, 1], (16, [(0, 1), (2, 3)])), False)
        self.assertIs(join_right(2, [4, 6, 1], (21, [(0, 1), (2, 3)])), False)

    def test_truths_are_no_numbers(self):
        self.assertIs(join_right(2, [0], (0, [])), True)
        self.assertIs(join_right(2, [0], (False, [])), False)
        self.assertIs(join_right(2, [0, 1], (1, [(0, 1)])), True)
        for told in ((True, [(0, 1)]), (1, [(False, 1)]), (1, [(0, True)]), (1, [(False, True)])):
            self.assertIs(join_right(2, [0, 1], told), False)

    def test_a_pair_is_a_tuple_of_two(self):
        for told in ([0, []], (0,), (0, [], 0), ()):
            self.assertIs(join_right(2, [5], told), False)


class Numbers(unittest.TestCase):
    def test_plain(self):
        self.assertEqual(join_numbers(2, 3, [(0, 2), (1, 3)]), [2, 1, 2])
        self.assertEqual(join_numbers(3, 3, [(0, 1, 2)]), [1, 1, 1])
        self.assertEqual(join_numbers(2, 1, []), [0])

    def test_every_log_of_few_rows(self):
        for p in (2, 3, 4, 7):
            for rows in range(1, 6):
                for log in all_logs(p, rows):
                    numbers = join_numbers(p, rows, log)
                    self.assertEqual(numbers, read_by(rows, log))
                    self.assertLessEqual(sum(fractions.Fraction(1, p ** number) for number in numbers), 1)

    def test_of_least_logs(self):
        for p in WAYS:
            for lengths in many_lengths():
                reading, log = least_join(p, lengths)
                numbers = join_numbers(p, len(lengths), log)
                self.assertEqual(numbers, read_by(len(lengths), log))
                self.assertEqual(join_numbers(p, len(lengths), tuple(log)), numbers)
                self.assertEqual(sum(length * number for length, number in zip(lengths, numbers)), reading)


class NumbersJoin(unittest.TestCase):
    def right(self, p, numbers):
        """Whether there is a log, which is checked then."""
        log = numbers_join(p, numbers)
        self.assertEqual(numbers_join(p, tuple(numbers)), log)
        if log is None:
            return False
        self.assertIs(type(log), list)
        self.assertTrue(is_log(p, len(numbers), log), (p, numbers, log))
        for times, number in zip(read_by(len(numbers), log), numbers):
            self.assertLessEqual(times, number, (p, numbers, log))
        return True

    def test_plain(self):
        self.assertEqual(numbers_join(2, [0]), [])
        self.assertEqual(numbers_join(2, [1, 1]), [(0, 1)])
        self.assertEqual(numbers_join(2, [1, 2, 2]), [(1, 2), (0, 3)])
        self.assertIsNone(numbers_join(2, [1, 1, 1]))
        self.assertIsNone(numbers_join(2, [0, 5]))

    def test_one_row(self):
        for p in WAYS:
            for number in (0, 1, 2, 59, 60, 1000, FAR):
                self.assertEqual(numbers_join(p, [number]), [])
            for number in (-1, -2, -FAR):
                self.assertIsNone(numbers_join(p, [number]))

    def test_all_small_ones(self):
        for p in (2, 3, 4):
            for rows in range(1, 6):
                for numbers in itertools.product(range(5), repeat=rows):
                    total = sum(fractions.Fraction(1, p ** number) for number in numbers)
                    self.assertIs(self.right(p, list(numbers)), total <= 1)

    def test_numbers_of_logs(self):
        # Numbers of a log itself have a sum of at most 1, of a full one just 1: with one of them less it is above.
        chance = random.Random(27)
        for p in WAYS:
            for joinings in range(1, 60 // (p - 1)):
                numbers = [0]
                for _ in range(joinings):
                    number = numbers.pop(chance.randrange(len(numbers)))
                    numbers += [number + 1] * p
                if len(numbers) > 60:
                    break
                chance.shuffle(numbers)
                self.assertEqual(sum(fractions.Fraction(1, p ** number) for number in numbers), 1)
                self.assertIs(self.right(p, numbers), True)
                for at in range(0, len(numbers), 5):
                    less = numbers[:at] + [numbers[at] - 1] + numbers[at + 1:]
                    self.assertIs(self.right(p, less), False)
                    more = numbers[:at] + [numbers[at] + 1] + numbers[at + 1:]
                    self.assertIs(self.right(p, more), True)
                if len(numbers) < 60:
                    self.assertIs(self.right(p, numbers + [max(numbers)]), False)
                    self.assertIs(self.right(p, numbers + [FAR]), False)
                    self.assertIs(self.right(p, [FAR] + numbers), False)

    def test_a_long_stair(self):
        for p in WAYS:
            stair = list(range(1, 60))
            self.assertIs(self.right(p, stair + [59]), True)
            self.assertIs(self.right(p, stair + [FAR]), True)
            self.assertIs(self.right(p, [FAR] + stair[::-1]), True)
            self.assertIs(self.right(p, stair[:-1] + [58]), True)
            self.assertIs(self.right(2, stair[:-1] + [58, 59]), False)
            self.assertIs(self.right(2, stair[:-1] + [58, FAR]), False)

    def test_far_greater_than_needed(self):
        for p in WAYS:
            for rows in (1, 2, 3, 7, 8, 49, 50, 59, 60):
                for number in (60, 61, 1000, FAR):
                    self.assertIs(self.right(p, [number] * rows), True)
            self.assertIs(self.right(p, [1] * (p - 1) + [FAR] * (60 - p)), True)
            self.assertIs(self.right(p, [1] * p + [FAR]), False)
            self.assertIs(self.right(p, [0] + [FAR] * 5), False)

    def test_sixty_rows(self):
        for p in WAYS:
            number = 0
            while p ** number < 60:
                number += 1
            self.assertIs(self.right(p, [number] * 60), True)
            self.assertIs(self.right(p, [number - 1] * 60), False)

    def test_numbers_below_none(self):
        for p in WAYS:
            for numbers in ([-1, 5], [5, -1], [-FAR] * 3, [FAR, -FAR], [9] * 59 + [-1]):
                self.assertIsNone(numbers_join(p, numbers))

    def test_somewhat_more_or_less_than_one_to_sixty_rows(self):
        for p in WAYS:
            self.assertEqual(numbers_join(p, []), [])
            self.assertEqual(least_join(p, []), (0, []))
            for rows in (61, 100):
                self.assertIs(self.right(p, [rows] * rows), True)
                self.assertIs(self.right(p, [1] * rows), False)
                self.assertIs(join_right(p, [1] * rows, least_join(p, [1] * rows)), True)

    def test_of_chance(self):
        chance = random.Random(28)
        lets = 0
        for _ in range(600):
            p, rows = chance.choice(WAYS), chance.randint(1, 60)
            numbers = [chance.choice((1, 2, 3, 4, 6, 9, 20, 70)) for _ in range(rows)]
            total = sum(fractions.Fraction(1, p ** number) for number in numbers)
            lets += total <= 1
            self.assertIs(self.right(p, numbers), total <= 1)
        self.assertGreater(lets, 50)
        self.assertLess(lets, 550)

    def test_of_told_numbers(self):
        for p in WAYS:
            for lengths in many_lengths():
                reading, log = least_join(p, lengths)
                again = numbers_join(p, join_numbers(p, len(lengths), log))
                self.assertTrue(is_log(p, len(lengths), again))
                self.assertEqual(reading_by(lengths, again), reading)

    def test_within_a_few_seconds(self):
        start = time.perf_counter()
        for p in WAYS:
            for numbers in ([FAR] * 60, list(range(1, 60)) + [59]):
                numbers_join(p, numbers)
        self.assertLess(time.perf_counter() - start, 5)


class Refused(unittest.TestCase):
    def test_no_ways(self):
        for p in NO_WAYS:
            for ask in (lambda: least_join(p, [5, 6]), lambda: join_right(p, [5], (0, [])), lambda: join_right(p, [5], ()),
                        lambda: join_numbers(p, 1, []), lambda: numbers_join(p, [1, 1])):
                with self.assertRaises(NoWays):
                    ask()


class Own(unittest.TestCase):
    def test_what_is_handed_in_stays(self):
        for lengths in many_lengths():
            kept = list(lengths)
            told = least_join(3, lengths)
            kept_told = copy.deepcopy(told)
            self.assertEqual(least_join(3, tuple(lengths)), told)
            join_right(3, lengths, told)
            numbers = join_numbers(3, len(lengths), told[1])
            kept_numbers = list(numbers)
            numbers_join(3, numbers)
            self.assertEqual((lengths, told, numbers), (kept, kept_told, kept_numbers))

    def test_what_was_told_is_the_askers(self):
        for ask in (lambda: least_join(2, [1, 2, 3]), lambda: join_numbers(2, 2, [(0, 1)]), lambda: numbers_join(2, [1, 1])):
            told = ask()
            kept = copy.deepcopy(told)
            for each in lists_in(told):
                each.append(None)
            self.assertEqual(ask(), kept)

    def test_kinds(self):
        reading, log = least_join(3, [4, 6, 1, 2])
        self.assertIs(type(least_join(3, [4, 6])), tuple)
        self.assertIs(type(reading), int)
        self.assertIs(type(log), list)
        self.assertEqual({type(joining) for joining in log}, {tuple})
        self.assertIs(type(join_numbers(3, 4, log)), list)


if __name__ == "__main__":
    unittest.main()
