"""[7], [8], [9], and [2] as far as it touches fewreels.store."""

import copy
import itertools
import random
import unittest

from fewreels.errors import NoRoom
from fewreels.rows import is_row, merged_row
from fewreels.store import fewest_rows, held_back, rows_written, writing_holds, writing_of

FAR = 10 ** 60 - 1
ROOMS = (1, 2, 3, 5, 59, 60)
NO_ROOMS = (0, 61, 62, 100, FAR, 10 ** 5000, -1, -60, -FAR, -10 ** 5000, True, False, None, "", "1", "60", "x", [], [1],
            [60], (), (1,), (5, 5), {}, {1: 1}, b"", b"1", {1}, int, len, range(5), object())


def some_things(seed, many, bound):
    chance = random.Random(seed)
    return [chance.randint(-bound, bound) for _ in range(many)]


def many_things():
    """Things that rise, fall, are alike, are of sixty figures."""
    yield []
    yield [5]
    yield list(range(300))
    yield list(range(300, 0, -1))
    yield [4] * 300
    yield [FAR - step for step in range(300)]
    yield [-FAR + step for step in range(300)]
    yield [FAR, -FAR] * 100
    yield [-FAR, 0, FAR, 0] * 50
    for many in (1, 2, 7, 59, 60, 61, 62, 120, 121, 300):
        for bound in (1, 40, FAR):
            yield some_things(many, many, bound)


def short_things():
    """All lists of up to five of three things, and some of six and seven."""
    for many in range(6):
        for things in itertools.product((0, 1, 2), repeat=many):
            yield list(things)
    for seed in range(12):
        yield some_things(seed, 6, 2)
        yield some_things(seed, 6, 50)
    yield some_things(50, 7, 3)
    yield [7, 6, 5, 4, 3, 2, 1]


def all_writings(many, room):
    """Every writing that holds, by the words of [7] and no other way."""
    for writing in itertools.permutations(range(many)):
        if all(place < at + room for at, place in enumerate(writing)):
            yield writing


def row_pairs(things, writing):
    """For each thing, as it is written, the pair (number of its row, thing)."""
    pairs = []
    number, last = 0, None
    for place in writing:
        if last is not None and things[place] < last:
            number += 1
        last = things[place]
        pairs.append((number, last))
    return pairs


def writing_by_hand(things, room):
    """The told writing, straight from the words of [8]."""
    waiting = list(enumerate(things))
    there, waiting = waiting[:room], waiting[room:]
    out = []
    while there:
        last = out[-1][1] if out else min(things)
        fitting = [each for each in there if each[1] >= last] or there
        least = min(thing for _, thing in fitting)
        goes = [each for each in fitting if each[1] == least][0]
        there = [each for each in there if each != goes] + waiting[:1]
        waiting = waiting[1:]
        out.append(goes)
    return [place for place, _ in out]


def bar_by_hand(things, room):
    for place in range(len(things)):
        greater = [ahead for ahead in range(place) if things[ahead] > things[place]]
        if len(greater) >= room:
            return (place, greater[:room])
    return None


class Room(unittest.TestCase):
    """[7]"""

    def refused(self, things, room, writing):
        with self.assertRaises(NoRoom):
            writing_of(things, room)
        with self.assertRaises(NoRoom):
            writing_holds(things, room, writing)
        with self.assertRaises(NoRoom):
            fewest_rows(things, room)
        with self.assertRaises(NoRoom):
            held_back(things, room)

    def test_no_room(self):
        for room in NO_ROOMS:
            with self.subTest(kind=room.__class__):
                self.refused([2, 1, 3], room, [0, 1, 2])
                self.refused([], room, [])

    def test_no_room_whatever_else_is_handed_in(self):
        for room in NO_ROOMS:
            for other in (None, 7, "abc", [None, "a"], [[1], 2], {1: 2}, [5, 5], object()):
                with self.subTest(kind=room.__class__, other=other):
                    self.refused(other, room, other)

    def test_what_is_refused_changes_nothing(self):
        things, writing, room = [2, 1], [1, 0], [1]
        self.refused(things, room, writing)
        self.assertEqual((things, writing, room), ([2, 1], [1, 0], [1]))

    def test_the_edges_are_rooms(self):
        things = [3, 1, 2]
        self.assertEqual(writing_of(things, 1), [0, 1, 2])
        self.assertEqual(writing_of(things, 60), [1, 2, 0])
        self.assertIs(writing_holds(things, 1, [0, 1, 2]), True)
        self.assertIs(writing_holds(things, 60, [2, 1, 0]), True)
        self.assertEqual(fewest_rows(things, 1), 2)
        self.assertEqual(fewest_rows(things, 60), 1)
        self.assertEqual(held_back(things, 1), (1, [0]))
        self.assertIsNone(held_back(things, 60))
        for room in range(1, 61):
            self.assertEqual(writing_of([9], room), [0])


class WritingHolds(unittest.TestCase):
    """[7]"""

    def test_of_none(self):
        self.assertIs(writing_holds([], 1, []), True)
        self.assertIs(writing_holds((), 60, ()), True)
        self.assertIs(writing_holds([], 1, [0]), False)
        self.assertIs(writing_holds([5], 1, []), False)

    def test_each_place_just_below(self):
        things = [0] * 100
        for room in ROOMS:
            for at in range(100 - room + 1):
                rest = [place for place in range(100) if place != at + room - 1]
                self.assertIs(writing_holds(things, room, rest[:at] + [at + room - 1] + rest[at:]), True)
            for at in range(100 - room):
                rest = [place for place in range(100) if place != at + room]
                self.assertIs(writing_holds(things, room, rest[:at] + [at + room] + rest[at:]), False)

    def test_not_each_once(self):
        for writing in ([0, 1], [0, 1, 1], [0, 0, 0], [0, 1, 2, 2], [0, 1, 2, 3], [0, 1, 3], [0, 1, -1], [-1, 0, 1],
                        [-3, -2, -1], [0, 1, 2, 0], [1, 2, 3], [0, 1, FAR], [0, 1, -FAR], [FAR, 0, 1], []):
            with self.subTest(writing=writing):
                self.assertIs(writing_holds([5, 6, 7], 60, writing), False)

    def test_a_truth_is_no_place(self):
        self.assertIs(writing_holds([5, 6], 2, [0, 1]), True)
        for writing in ([False, True], [0, True], [False, 1], [True, 0], (1, False)):
            self.assertIs(writing_holds([5, 6], 2, writing), False)

    def test_every_short_list(self):
        for many in range(4):
            things = list(range(many))
            for room in range(1, 5):
                holding = set(all_writings(many, room))
                for length in range(5):
                    for writing in itertools.product(range(-1, 5), repeat=length):
                        self.assertIs(writing_holds(things, room, list(writing)), writing in holding)

    def test_every_short_writing(self):
        for many in range(7):
            for room in (1, 2, 3, 5, 6, 60):
                holding = set(all_writings(many, room))
                for writing in itertools.permutations(range(many)):
                    self.assertIs(writing_holds([3] * many, room, writing), writing in holding)


class RowsWritten(unittest.TestCase):
    """[7]"""

    def test_of_none(self):
        self.assertEqual(rows_written([], []), [])
        self.assertEqual(rows_written((), ()), [])

    def test_a_new_row_just_where_a_thing_is_less(self):
        self.assertEqual(rows_written([3, 1, 2], [0, 1, 2]), [[3], [1, 2]])
        self.assertEqual(rows_written([3, 1, 2], [0, 2, 1]), [[3], [2], [1]])
        self.assertEqual(rows_written([3, 1, 2], [1, 2, 0]), [[1, 2, 3]])
        self.assertEqual(rows_written([4, 4, 4], [2, 0, 1]), [[4, 4, 4]])
        self.assertEqual(rows_written([FAR, -FAR], [0, 1]), [[FAR], [-FAR]])

    def test_any_with_all_places_once(self):
        for things in ([2, 0, 1, 2], [0, 1, 2, 3], [1, 1, 0, 0], [FAR, -FAR, 0, FAR]):
            for writing in itertools.permutations(range(4)):
                rows = rows_written(things, list(writing))
                self.assertEqual(sum(rows, []), [things[place] for place in writing])
                self.assertTrue(all(row and is_row(row) for row in rows))
                for row, behind in zip(rows, rows[1:]):
                    self.assertLess(behind[0], row[-1])

    def test_one_that_no_room_lets_by(self):
        things = list(range(300))
        self.assertEqual(rows_written(things, things[::-1]), [[thing] for thing in things[::-1]])

    def test_rows_are_lists_and_merge_to_all(self):
        for things in many_things():
            for room in (1, 7, 60):
                rows = rows_written(things, writing_of(things, room))
                self.assertIs(rows.__class__, list)
                self.assertTrue(all(row.__class__ is list for row in rows))
                self.assertEqual(merged_row(rows), sorted(things))


class Told(unittest.TestCase):
    """[8]"""

    def test_plain(self):
        self.assertEqual(writing_of([5, 3, 8, 1, 9, 2], 2), [1, 0, 2, 4, 3, 5])
        self.assertEqual(rows_written([5, 3, 8, 1, 9, 2], [1, 0, 2, 4, 3, 5]), [[3, 5, 8, 9], [1, 2]])
        self.assertEqual(fewest_rows([5, 3, 8, 1, 9, 2], 2), 2)

    def test_none(self):
        for room in ROOMS:
            self.assertEqual(writing_of([], room), [])
            self.assertEqual(fewest_rows([], room), 0)

    def test_of_alike_ones_the_first(self):
        self.assertEqual(writing_of([4] * 300, 60), list(range(300)))
        self.assertEqual(writing_of([2, 1, 2, 1, 2], 3), [1, 3, 0, 2, 4])
        self.assertEqual(writing_of([1, 2, 0, 0, 0], 2), [0, 1, 2, 3, 4])

    def test_as_the_words_tell(self):
        for things in many_things():
            for room in ROOMS:
                writing = writing_of(things, room)
                self.assertEqual(writing, writing_by_hand(things, room))
                self.assertIs(writing.__class__, list)
                self.assertIs(writing_holds(things, room, writing), True)
                self.assertEqual(fewest_rows(things, room), len(rows_written(things, writing)))

    def test_rising_and_falling(self):
        for room in ROOMS:
            self.assertEqual(writing_of(list(range(300)), room), list(range(300)))
            self.assertEqual(fewest_rows(list(range(300)), room), 1)
            self.assertEqual(fewest_rows(list(range(300, 0, -1)), room), -(-300 // room))

    def test_room_for_all(self):
        for things in many_things():
            few = things[:60]
            expected = sorted(range(len(few)), key=lambda place: (few[place], place))
            self.assertEqual(writing_of(few, 60), expected)
            self.assertEqual(fewest_rows(few, 60), 1 if few else 0)

    def test_room_one_writes_as_they_come(self):
        for things in many_things():
            self.assertEqual(writing_of(things, 1), list(range(len(things))))

    def test_each_row_but_the_last_is_long(self):
        for things in many_things():
            for room in ROOMS:
                for row in rows_written(things, writing_of(things, room))[:-1]:
                    self.assertGreaterEqual(len(row), room)

    def test_no_writing_that_holds_is_ahead_of_it(self):
        for things in short_things():
            for room in range(1, len(things) + 2):
                told = row_pairs(things, writing_of(things, room))
                fewest = fewest_rows(things, room)
                for writing in all_writings(len(things), room):
                    pairs = row_pairs(things, writing)
                    self.assertTrue(all(ours <= other for ours, other in zip(told, pairs)), (things, room, writing))
                    if pairs:
                        self.assertLessEqual(fewest, pairs[-1][0] + 1)


class HeldBack(unittest.TestCase):
    """[9]"""

    def test_plain(self):
        self.assertIsNone(held_back([], 1))
        self.assertIsNone(held_back([3], 1))
        self.assertIsNone(held_back([1, 2, 2, 3], 1))
        self.assertEqual(held_back([1, 3, 2], 1), (2, [1]))
        self.assertIsNone(held_back([1, 3, 2], 2))
        self.assertEqual(held_back([5, 1, 6, 7, 4, 0], 3), (4, [0, 2, 3]))
        self.assertEqual(held_back([5, 1, 6, 7, 8, 0], 3), (5, [0, 1, 2]))

    def test_alike_ones_are_no_greater_ones(self):
        self.assertIsNone(held_back([4] * 300, 1))
        self.assertEqual(held_back([4, 4, 4, 3], 3), (3, [0, 1, 2]))
        self.assertIsNone(held_back([3, 4, 4, 3], 3))

    def test_the_edge_of_the_room(self):
        for room in range(1, 61):
            things = list(range(1, room + 1)) + [0]
            self.assertEqual(held_back(things, room), (room, list(range(room))))
            self.assertIsNone(held_back(things[1:], room))
            self.assertEqual(fewest_rows(things, room), 2)
            self.assertEqual(fewest_rows(things[1:], room), 1)

    def test_as_the_words_tell(self):
        for things in many_things():
            for room in ROOMS:
                told = held_back(things, room)
                self.assertEqual(told, bar_by_hand(things, room))
                self.assertEqual(told is None, fewest_rows(things, room) <= 1)
                if told is not None:
                    self.assertIs(told.__class__, tuple)
                    self.assertIs(told[1].__class__, list)

    def test_one_row_just_where_none_is_held_back(self):
        for things in short_things():
            for room in range(1, len(things) + 2):
                told = held_back(things, room)
                self.assertEqual(told, bar_by_hand(things, room))
                one = any(row_pairs(things, writing)[-1:] in ([], [(0, max(things, default=0))])
                          for writing in all_writings(len(things), room))
                self.assertEqual(told is None, one)


class Own(unittest.TestCase):
    """[2]"""

    def test_a_tuple_does_as_a_list(self):
        for things in many_things():
            for room in (1, 7, 60):
                writing = writing_of(things, room)
                self.assertEqual(writing_of(tuple(things), room), writing)
                self.assertIs(writing_holds(tuple(things), room, tuple(writing)), True)
                self.assertIs(writing_holds(tuple(things), room, tuple(writing[1:])), not things)
                self.assertEqual(rows_written(tuple(things), tuple(writing)), rows_written(things, writing))
                self.assertEqual(fewest_rows(tuple(things), room), fewest_rows(things, room))
                self.assertEqual(held_back(tuple(things), room), held_back(things, room))

    def test_what_is_handed_in_stays(self):
        for things in many_things():
            kept = copy.deepcopy(things)
            for room in (1, 7, 60):
                writing = writing_of(things, room)
                kept_writing = list(writing)
                writing_holds(things, room, writing)
                writing_holds(things, room, writing[::-1])
                rows_written(things, writing)
                fewest_rows(things, room)
                held_back(things, room)
                self.assertEqual(writing, kept_writing)
            self.assertEqual(things, kept)

    def test_what_was_told_is_the_askers(self):
        things = [9, 3, 8, 1, 2]
        for ask in (lambda: writing_of(things, 2), lambda: rows_written(things, [0, 1, 2, 3, 4])):
            first = ask()
            kept = copy.deepcopy(first)
            first.append(7)
            first[0] = None
            self.assertEqual(ask(), kept)
        place, greater = held_back(things, 2)
        greater.append(0)
        self.assertEqual(held_back(things, 2), (3, [0, 1]))
        self.assertEqual(things, [9, 3, 8, 1, 2])

    def test_no_two_told_lists_are_one(self):
        for things in many_things():
            rows = rows_written(things, writing_of(things, 1))
            self.assertEqual(len({id(row) for row in rows}), len(rows))
        rows = rows_written([2, 1, 0], [0, 1, 2])
        rows[0].append(5)
        self.assertEqual(rows, [[2, 5], [1], [0]])


if __name__ == "__main__":
    unittest.main()
