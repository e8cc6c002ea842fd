"""[1] to [5] over the whole program: from things that come to one row, what is told ahead being what is read."""

import copy
import importlib
import inspect
import random
import time
import unittest

from cases import NO_WAYS, WAYS, counts_by_hand, last_told, lists_in, numbers_by_hand
from fewreels.best import best_laying, best_reading
from fewreels.cascade import cascade_counts, cascade_numbers
from fewreels.coming import came_counts, came_laying, came_reading, reel_for
from fewreels.desk import Desk
from fewreels.errors import NoWays
from fewreels.fewest import fewest_phases
from fewreels.held import held_lengths, held_rows
from fewreels.joins import join_numbers, least_join, numbers_join
from fewreels.laying import least_reading
from fewreels.lengths import best_placing, least_placing, placing_holds, placing_reading
from fewreels.levels import level_of
from fewreels.playing import laid_reels, level_phases, play_rows
from fewreels.store import rows_written, writing_of
from fewreels.texts import laying_text, lengths_text, log_text, phases_text, read_laying, read_lengths, read_phases
from fewreels.turned import turned_numbers, turned_play, turned_ups

INTERFACE = {
    "rows": {"is_row": 1, "merged_row": 1, "merge_order": 1, "order_holds": 2},
    "store": {"writing_of": 2, "writing_holds": 3, "rows_written": 2, "fewest_rows": 2, "held_back": 2},
    "levels": {"level_counts": 2, "level_total": 2, "level_of": 2},
    "phases": {"phase_done": 2, "plan_done": 2},
    "fewest": {"fewest_phases": 1, "phases_right": 2},
    "numbers": {"level_numbers": 2},
    "spreads": {"spread_of": 2},
    "laying": {"laying_holds": 3, "laying_reading": 3, "least_reading": 3},
    "best": {"best_reading": 2, "best_laying": 2, "best_right": 3},
    "lengths": {"placing_reading": 4, "placing_holds": 4, "least_placing": 3, "best_placing": 2, "placing_right": 3},
    "coming": {"reel_for": 2, "came_counts": 2, "came_laying": 2, "came_reading": 2},
    "playing": {"play_rows": 2, "level_phases": 2, "laid_reels": 2},
    "turned": {"turned_numbers": 2, "turned_ups": 2, "turned_play": 2},
    "cascade": {"cascade_counts": 2, "cascade_numbers": 2, "cascade_spread": 2, "best_cascade": 2, "long_cascade": 2},
    "joins": {"least_join": 2, "join_right": 3, "join_numbers": 3, "numbers_join": 2},
    "held": {"held_rows": 2, "held_lengths": 2, "better_way": 2, "first_cascade": 2},
    "texts": {"lengths_text": 1, "laying_text": 1, "phases_text": 1, "log_text": 1, "read_lengths": 1, "read_laying": 1,
              "read_phases": 1},
}


def function(module, name):
    return getattr(importlib.import_module(f"fewreels.{module}"), name)


def some_things(seed, many):
    chance = random.Random(seed)
    return [chance.randint(-50, 50) for _ in range(many)]


def written_rows():
    """Things, and the rows that stores of several rooms make of them."""
    for seed, (many, room) in enumerate(((1, 1), (5, 1), (40, 1), (60, 2), (120, 3), (300, 4), (300, 8), (300, 60))):
        things = some_things(seed, many)
        yield things, rows_written(things, writing_of(things, room))


def all_read(read):
    return sum(map(sum, read))


def reels_by_placing(p, n, rows, placing):
    """The reels of a level with each row at its place, idle ones at all others."""
    reels = [[None] * count for count in counts_by_hand(p, n)] + [[]]
    for row, (reel, place) in zip(rows, placing):
        reels[reel][place] = row
    return reels


def rows_left(reels):
    return [row for reel in reels for row in reel]


class Interface(unittest.TestCase):
    def test_names_and_arguments(self):
        for module, names in INTERFACE.items():
            for name, many in names.items():
                parameters = inspect.signature(function(module, name)).parameters.values()
                needed = [each for each in parameters if each.default is each.empty]
                self.assertEqual((len(needed), len(parameters)), (many, many), name)
        self.assertEqual(len(inspect.signature(Desk).parameters), 0)
        self.assertEqual(len(inspect.signature(Desk().say).parameters), 1)

    def test_ways_go_ahead_of_all_else(self):
        # The other arguments are none that are let, so whatever else is looked at first fails otherwise.
        for module, names in INTERFACE.items():
            for name, many in names.items():
                if next(iter(inspect.signature(function(module, name)).parameters)) == "p":
                    for p in NO_WAYS:
                        for other in (None, -1, True, [], ()):
                            with self.assertRaises(NoWays, msg=(name, p)):
                                function(module, name)(p, *([other] * (many - 1)))


class FromThingsToOneRow(unittest.TestCase):
    def test_by_the_best_placing(self):
        for things, rows in written_rows():
            lengths = [len(row) for row in rows]
            for p in WAYS:
                reading, level, placing = best_placing(p, lengths)
                behind, read = play_rows(reels_by_placing(p, level, rows, placing), level_phases(p, level))
                self.assertEqual(rows_left(behind), [sorted(things)])
                self.assertEqual(all_read(read), reading)
                self.assertGreaterEqual(reading, least_join(p, lengths)[0])

    def test_as_they_come(self):
        for things, rows in written_rows():
            for p in WAYS:
                laying = came_laying(p, len(rows))
                level = level_of(p, len(rows))
                behind, read = play_rows(laid_reels(laying, rows), level_phases(p, level))
                self.assertEqual(rows_left(behind), [sorted(things)])
                placing = [(reel, place) for reel, reals in enumerate(laying) for place, real in enumerate(reals) if real]
                self.assertEqual(all_read(read), placing_reading(p, level, [len(row) for row in rows], placing))
                self.assertGreaterEqual(all_read(read), least_join(p, [len(row) for row in rows])[0])

    def test_row_by_row_onto_the_reels(self):
        # Each row goes where reel_for tells; what is lacking in the end is made up ahead of the others.
        for things, rows in written_rows():
            for p in WAYS:
                reels = [[] for _ in range(p)]
                for came, row in enumerate(rows):
                    reels[reel_for(p, came)].append(row)
                self.assertEqual([len(reel) for reel in reels], came_counts(p, len(rows)))
                level = level_of(p, len(rows))
                full = [[None] * (count - len(reel)) + reel for count, reel in zip(counts_by_hand(p, level), reels)]
                behind, read = play_rows(full + [[]], level_phases(p, level))
                self.assertEqual(rows_left(behind), [sorted(things)])

    def test_at_any_places_of_a_level(self):
        chance = random.Random(4)
        for things, rows in written_rows():
            lengths = [len(row) for row in rows]
            for p in WAYS:
                level = level_of(p, len(rows)) + chance.randint(0, 2)
                spots = [(reel, place) for reel, count in enumerate(counts_by_hand(p, level)) for place in range(count)]
                placing = chance.sample(spots, len(rows))
                self.assertIs(placing_holds(p, level, lengths, placing), True)
                behind, read = play_rows(reels_by_placing(p, level, rows, placing), level_phases(p, level))
                self.assertEqual(rows_left(behind), [sorted(things)])
                self.assertEqual(all_read(read), placing_reading(p, level, lengths, placing))
                self.assertGreaterEqual(all_read(read), least_placing(p, level, lengths)[0])
                self.assertGreaterEqual(all_read(read), best_placing(p, lengths)[0])
                self.assertGreaterEqual(all_read(read), least_join(p, lengths)[0])

    def test_like_rows_by_the_best_laying(self):
        for p in WAYS:
            for rows in (1, 2, 3, 5, 17, 60, 200, 400):
                reading, level, laying = best_laying(p, rows)
                behind, read = play_rows(laid_reels(laying, [[row % 7] for row in range(rows)]), level_phases(p, level))
                self.assertEqual(rows_left(behind), [sorted(row % 7 for row in range(rows))])
                self.assertEqual(all_read(read), reading)

    def test_like_rows_as_they_come(self):
        for p in WAYS:
            for rows in (1, 2, 3, 5, 17, 60, 200, 1000):
                reels = laid_reels(came_laying(p, rows), [[row] for row in range(rows)])
                behind, read = play_rows(reels, level_phases(p, level_of(p, rows)))
                self.assertEqual(rows_left(behind), [list(range(rows))])
                self.assertEqual(all_read(read), came_reading(p, rows))

    def test_by_the_plan_of_the_fewest_phases(self):
        chance = random.Random(5)
        for things, rows in written_rows():
            for p in WAYS:
                reels = [[] for _ in range(p + 1)]
                for row in rows:
                    reels[chance.randrange(p)].append(row)
                phases, plan, _ = fewest_phases(tuple(len(reel) for reel in reels))
                behind, read = play_rows(reels, plan)
                self.assertEqual(rows_left(behind), [sorted(things)])
                self.assertEqual(len(read), phases)
                self.assertGreaterEqual(all_read(read), least_join(p, [len(row) for row in rows])[0])

    def test_turned(self):
        chance = random.Random(6)
        for things, rows in written_rows():
            for p in WAYS:
                level = level_of(p, len(rows))
                spots = [(reel, place) for reel, count in enumerate(counts_by_hand(p, level)) for place in range(count)]
                reels = [[None] * count for count in counts_by_hand(p, level)]
                ups, numbers, reading = turned_ups(p, level), turned_numbers(p, level), 0
                for row, (reel, place) in zip(rows, chance.sample(spots, len(rows))):
                    up = ups[reel][place]
                    reels[reel][place] = (up, row if up else row[::-1])
                    reading += len(row) * numbers[reel][place]
                last, read = turned_play(p, reels)
                self.assertEqual(last, (True, sorted(things)))
                self.assertEqual(sum(read), reading)

    def test_the_cascade(self):
        # A pass is played by phases like any others: each onto the reel that got empty last.
        for p in WAYS:
            for n in range(6):
                counts = cascade_counts(p, n)
                if sum(counts) > 1500:
                    continue
                reels = [[[reel, place + 9] for place in range(count)] for reel, count in enumerate(counts)] + [[]]
                order, out, reading = list(range(p)), p, 0
                for _ in range(n):
                    written = []
                    for many in range(p, 1, -1):
                        last = order[many - 1]
                        if reels[last]:
                            # The reels that aren't read in this phase are put aside.
                            aside = {at: reels[at] for at in range(p + 1) if at not in order[:many] + [out]}
                            played = [[] if at in aside else reel for at, reel in enumerate(reels)]
                            reels, read = play_rows(played, [(out, len(reels[last]))])
                            reels = [aside.get(at, reel) for at, reel in enumerate(reels)]
                            reading += all_read(read)
                        written.append(out)
                        out = last
                    order = written + [order[0]]
                self.assertEqual(len(rows_left(reels)), 1)
                self.assertEqual(len(rows_left(reels)[0]), 2 * sum(counts))
                self.assertEqual(reading, 2 * sum(map(sum, cascade_numbers(p, n))))


class NoReadingIsLessThanTheLeastLog(unittest.TestCase):
    def test_of_a_level(self):
        for p in WAYS:
            for n in range(8):
                total = sum(counts_by_hand(p, n))
                for rows in range(1, total + 1, max(1, total // 20)):
                    self.assertGreaterEqual(least_reading(p, n, rows), held_rows(p, rows)[0])
                    self.assertGreaterEqual(least_reading(p, n, rows), best_reading(p, rows)[0])

    def test_numbers_of_a_level_are_those_of_a_log(self):
        # Rows merged on reels are joined, up to p at once: so the sum is 1, and there is a log that reads as little.
        for p in WAYS:
            for n in range(last_told(p) + 1):
                numbers = [number for reel in numbers_by_hand(p, n) for number in reel]
                if len(numbers) <= 60:
                    log = numbers_join(p, numbers)
                    self.assertEqual(sum(join_numbers(p, len(numbers), log)), sum(numbers))

    def test_of_lengths(self):
        for seed in range(10):
            lengths = [abs(thing) for thing in some_things(seed, 6 * seed + 1)]
            for p in WAYS:
                log, phases, cascade, balanced = held_lengths(p, lengths)
                self.assertLessEqual(log, phases[0])
                self.assertLessEqual(phases[0], cascade[0])


class Texts(unittest.TestCase):
    def test_what_is_told_is_written_and_read_back(self):
        for things, rows in written_rows():
            lengths = [len(row) for row in rows][:60]
            self.assertEqual(read_lengths(lengths_text(lengths)), lengths)
            for p in WAYS:
                laying = came_laying(p, len(lengths))
                self.assertEqual(read_laying(laying_text(laying)), laying)
                phases = level_phases(p, level_of(p, len(lengths)))
                self.assertEqual(read_phases(phases_text(phases)), phases)

    def test_the_desk_tells_as_the_rest_does(self):
        for things, rows in written_rows():
            lengths = [len(row) for row in rows][:60]
            desk = Desk()
            desk.say("add " + lengths_text(lengths))
            for p in WAYS:
                desk.say(f"reels {p}")
                self.assertEqual(desk.say("log"), log_text(least_join(p, lengths)[1]))
                self.assertEqual(read_laying(desk.say("laid")), came_laying(p, len(lengths)))


class Own(unittest.TestCase):
    def test_nothing_handed_in_is_changed_or_told(self):
        things = some_things(1, 60)
        rows = rows_written(things, writing_of(things, 3))
        lengths = [len(row) for row in rows]
        laying = came_laying(3, len(rows))
        reels = laid_reels(laying, rows)
        phases = level_phases(3, level_of(3, len(rows)))
        handed = [things, rows, lengths, reels, phases]
        kept = copy.deepcopy(handed)
        told = [rows_written(things, writing_of(things, 3)), laid_reels(laying, rows), play_rows(reels, phases),
                best_placing(3, lengths), least_join(3, lengths), held_lengths(3, lengths)]
        self.assertEqual(handed, kept)
        every = lists_in(handed) + lists_in(told)
        self.assertEqual(len({id(each) for each in every}), len(every))
        for each in lists_in(told):
            each.clear()
        self.assertEqual(handed, kept)

    def test_the_same_question_has_the_same_answer(self):
        lengths = [abs(thing) for thing in some_things(2, 40)]
        for p in WAYS:
            for ask in (best_placing, least_join, held_lengths):
                self.assertEqual(ask(p, lengths), ask(p, list(lengths)))
            self.assertEqual(best_laying(p, 77), best_laying(p, 77))
            self.assertEqual(numbers_join(p, [3, 4, 5, 6, 7]), numbers_join(p, [3, 4, 5, 6, 7]))

    def test_all_of_it_within_a_few_seconds(self):
        start = time.perf_counter()
        things = some_things(3, 300)
        rows = rows_written(things, writing_of(things, 1))
        lengths = [len(row) for row in rows]
        for p in WAYS:
            reading, level, placing = best_placing(p, lengths)
            behind, _ = play_rows(reels_by_placing(p, level, rows, placing), level_phases(p, level))
            self.assertEqual(rows_left(behind), [sorted(things)])
        self.assertLess(time.perf_counter() - start, 5)


if __name__ == "__main__":
    unittest.main()
