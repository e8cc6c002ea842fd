"""[6], and [2] as far as it touches fewreels.rows."""

import copy
import itertools
import random
import unittest

from fewreels.rows import is_row, merge_order, merged_row, order_holds

FAR = 10 ** 60 - 1


def some_rows(seed, many, longest, bound):
    chance = random.Random(seed)
    rows = []
    for _ in range(many):
        rows.append(sorted(chance.randint(-bound, bound) for _ in range(chance.randint(0, longest))))
    return rows


def many_rows():
    """None to twelve rows, with empty ones and with alike things in several rows."""
    for many in range(13):
        for bound in (0, 2, 30, FAR):
            yield some_rows(many, many, 8, bound)
    yield [[] for _ in range(12)]
    yield [[], [1], [], [1, 1], []]
    yield [[-FAR, 0, FAR], [-FAR, FAR], [FAR]]
    yield some_rows(99, 12, 400, 50)


def taken_by(rows, order):
    """The things in the order in which they are taken off the rows' fronts."""
    left = [list(row) for row in rows]
    return [left[number].pop(0) for number in order]


def order_by_hand(rows):
    """The told order, straight from the words of [6]."""
    left = [list(row) for row in rows]
    order = []
    while any(left):
        fronts = [(row[0], number) for number, row in enumerate(left) if row]
        number = min(fronts)[1]
        left[number].pop(0)
        order.append(number)
    return order


def holds_by_hand(rows, order):
    if any(number not in range(len(rows)) for number in order):
        return False
    if any(list(order).count(number) != len(row) for number, row in enumerate(rows)):
        return False
    taken = taken_by(rows, order)
    return taken == sorted(taken)


class Thing:
    pass


class IsRow(unittest.TestCase):
    def test_rows(self):
        for row in ([], (), [0], (5,), [-3, 0, 0, 7], (1, 1, 1), [-FAR, FAR], [FAR, FAR], list(range(400)),
                    [-FAR, -1, 0], [10 ** 61, 10 ** 62]):
            with self.subTest(row=row):
                self.assertIs(is_row(row), True)

    def test_unsorted(self):
        for row in ([1, 0], (2, 1), [0, 1, 2, 1], [1, 0, 2, 3], [FAR, -FAR], [-1, -2], [1, 1, 0]):
            with self.subTest(row=row):
                self.assertIs(is_row(row), False)

    def test_truths_are_no_whole_numbers(self):
        for row in ([True], [False], (True,), [0, True], [False, 1], [1, 2, True], [False, True], [-1, False, 3]):
            with self.subTest(row=row):
                self.assertIs(is_row(row), False)

    def test_other_things_in_it(self):
        for row in ([None], [0, None], ["1"], ["a", "b"], [1, "2"], [[1]], [[1], [2]], [[]], [()], [(1,)], [{}],
                    [1, [2]], ([1], [2]), [b"a"], [b"a", b"b"], [{1}], [Thing()], [int], [len]):
            with self.subTest(row=row):
                self.assertIs(is_row(row), False)

    def test_no_list_at_all(self):
        for thing in (None, True, False, 0, 1, -FAR, 10 ** 5000, "", "1", "12", b"", b"ab", bytearray(b"ab"), {}, {1: 2},
                      {0: 1, 1: 2}, set(), {1, 2}, frozenset([1]), range(3), range(0), Thing(), Thing, list, int, len,
                      iter([1, 2]), zip([1]), (x for x in [1]), [1].__iter__, Ellipsis, memoryview(b"ab"), object(),
                      ValueError("x"), {1: 2}.keys()):
            with self.subTest(kind=thing.__class__):
                self.assertIs(is_row(thing), False)

    def test_a_list_that_holds_itself(self):
        ring = [1]
        ring.append(ring)
        self.assertIs(is_row(ring), False)

    def test_every_short_list(self):
        for length in range(5):
            for row in itertools.product((-1, 0, 1), repeat=length):
                self.assertIs(is_row(row), list(row) == sorted(row))
                self.assertIs(is_row(list(row)), list(row) == sorted(row))


class Merged(unittest.TestCase):
    def test_plain(self):
        self.assertEqual(merged_row([[1, 4, 9], [2, 3], [4, 10]]), [1, 2, 3, 4, 4, 9, 10])
        self.assertEqual(merge_order([[1, 4, 9], [2, 3], [4, 10]]), [0, 1, 1, 0, 2, 0, 2])

    def test_nothing(self):
        for rows in ([], (), [[]], ((),), [[], (), []], [[] for _ in range(12)]):
            self.assertEqual(merged_row(rows), [])
            self.assertEqual(merge_order(rows), [])

    def test_one_row(self):
        self.assertEqual(merged_row([[3, 3, 5]]), [3, 3, 5])
        self.assertEqual(merge_order([[3, 3, 5]]), [0, 0, 0])

    def test_of_alike_things_the_first_row_is_taken(self):
        self.assertEqual(merge_order([[1, 1], [1], [0, 1]]), [2, 0, 0, 1, 2])
        self.assertEqual(merge_order([[], [7], [], [7], [7, 7]]), [1, 3, 4, 4])
        self.assertEqual(merge_order([[2], [1, 2], [1, 2]]), [1, 2, 0, 1, 2])

    def test_none_to_twelve_rows(self):
        for rows in many_rows():
            order = merge_order(rows)
            self.assertEqual(order, order_by_hand(rows))
            merged = merged_row(rows)
            self.assertIs(merged.__class__, list)
            self.assertIs(order.__class__, list)
            self.assertEqual(merged, taken_by(rows, order))
            self.assertIs(is_row(merged), True)
            self.assertEqual(merged, sorted(sum(rows, [])))
            self.assertIs(order_holds(rows, order), True)

    def test_what_was_told_is_merged_again(self):
        rows = some_rows(7, 12, 400, 10 ** 6)
        once = merged_row(rows)
        twice = merged_row([once] * 12)
        self.assertEqual(len(twice), 12 * len(once))
        self.assertIs(order_holds([once] * 12, merge_order([once] * 12)), True)


class OrderHolds(unittest.TestCase):
    ROWS = [[1, 4], [], [2, 4, 4]]

    def test_those_that_hold(self):
        for order in ([0, 2, 0, 2, 2], [0, 2, 2, 0, 2], [0, 2, 2, 2, 0]):
            self.assertIs(order_holds(self.ROWS, order), True)
            self.assertIs(order_holds(self.ROWS, tuple(order)), True)

    def test_too_often_or_too_seldom(self):
        for order in ([], [0], [0, 2, 0, 2], [0, 2, 0, 2, 2, 2], [0, 2, 0, 2, 2, 0], [0, 0, 0, 2, 2], [2, 2, 2],
                      [0, 2, 2, 2], [0, 2, 2, 2, 2], [0, 1, 2, 0, 2, 2], [0, 2, 0, 2, 1], [0, 2, 0, 2, 2, 1]):
            with self.subTest(order=order):
                self.assertIs(order_holds(self.ROWS, order), False)

    def test_no_number_of_a_row(self):
        for order in ([0, 2, 0, 2, 3], [0, 2, 0, 2, -1], [0, -1, 0, -1, -1], [-3, 2, -3, 2, 2], [0, 2, 0, 2, 2, 3],
                      [0, 2, 0, 2, FAR], [-FAR, 2, 0, 2, 2], [3], [-1], [0, 2, 0, 2, 2, -2]):
            with self.subTest(order=order):
                self.assertIs(order_holds(self.ROWS, order), False)

    def test_less_than_the_one_ahead(self):
        for order in ([2, 0, 0, 2, 2], [0, 0, 2, 2, 2], [2, 2, 2, 0, 0]):
            with self.subTest(order=order):
                self.assertIs(order_holds(self.ROWS, order), False)

    def test_a_truth_is_no_number_of_a_row(self):
        self.assertIs(order_holds([[1], [2]], [0, 1]), True)
        for order in ([False, True], [0, True], [False, 1]):
            self.assertIs(order_holds([[1], [2]], order), False)

    def test_of_none(self):
        self.assertIs(order_holds([], []), True)
        self.assertIs(order_holds((), ()), True)
        self.assertIs(order_holds([[], []], []), True)
        self.assertIs(order_holds([], [0]), False)
        self.assertIs(order_holds([[]], [0]), False)
        self.assertIs(order_holds([[0]], []), False)

    def test_what_are_no_rows_have_no_order(self):
        for rows in ([[2, 1]], ((2, 1),), [[True, 2]], [[1, True]]):
            self.assertIs(order_holds(rows, [0, 0]), False)

    def test_every_short_order(self):
        for rows in ([[0, 1], [1]], [[1], [0, 1]], [[1, 1], [1]], [[2], [], [0, 1]], [[-1], [0], [0]]):
            for length in range(5):
                for order in itertools.product(range(-2, 4), repeat=length):
                    self.assertIs(order_holds(rows, list(order)), holds_by_hand(rows, order), (rows, order))


class Own(unittest.TestCase):
    """[2]"""

    def test_a_tuple_does_as_a_list(self):
        for rows in many_rows():
            as_tuples = tuple(tuple(row) for row in rows)
            self.assertEqual(merged_row(as_tuples), merged_row(rows))
            self.assertEqual(merge_order(as_tuples), merge_order(rows))
            self.assertIs(order_holds(as_tuples, tuple(merge_order(rows))), True)
            self.assertIs(order_holds([tuple(row) for row in rows], merge_order(rows)), True)

    def test_what_is_handed_in_stays(self):
        for rows in many_rows():
            kept = copy.deepcopy(rows)
            order = merge_order(rows)
            kept_order = list(order)
            merged_row(rows)
            order_holds(rows, order)
            order_holds(rows, order[1:])
            for row in rows:
                is_row(row)
            self.assertEqual(rows, kept)
            self.assertEqual(order, kept_order)

    def test_what_was_told_is_the_askers(self):
        rows = [[1, 2, 3]]
        merged, order = merged_row(rows), merge_order(rows)
        merged.append(0)
        order.append(9)
        self.assertEqual(rows, [[1, 2, 3]])
        self.assertEqual(merged_row(rows), [1, 2, 3])
        self.assertEqual(merge_order(rows), [0, 0, 0])
        self.assertIsNot(merged_row(rows), merged_row(rows))
        self.assertIsNot(merge_order(rows), merge_order(rows))


if __name__ == "__main__":
    unittest.main()
