"""[12]: fewreels.fewest."""

import itertools
import random
import unittest

from cases import FAR, NO_STANDINGS, WAYS, counts_by_hand
from fewreels.errors import NoStanding
from fewreels.fewest import fewest_phases, phases_right
from fewreels.phases import phase_done, plan_done


def level_by_hand(standing):
    """The first level whose counts are, place by place, no less, the greatest first."""
    counts = sorted(standing, reverse=True)
    n = 0
    while any(have > most for have, most in zip(counts, counts_by_hand(len(standing) - 1, n) + (0,))):
        n += 1
    return n


def bars_by_hand(standing):
    """All places at which the level of one phase fewer has less."""
    n = level_by_hand(standing)
    if n == 0:
        return [None]
    counts = sorted(standing, reverse=True)
    return [place for place, most in enumerate(counts_by_hand(len(standing) - 1, n - 1)) if counts[place] > most]


def fewest_by_all_plans(standing):
    """The fewest phases, all phases of all standings gone through, one step behind the other."""
    there, steps = {tuple(sorted(standing))}, 0
    seen = set(there)
    while all(sum(counts) > 1 for counts in there):
        behind = set()
        for counts in there:
            if counts[0] == 0:
                for many in range(1, counts[-1] + 1):
                    behind.add(tuple(sorted([max(count - many, 0) for count in counts[1:]] + [many])))
        there = behind - seen
        seen |= there
        steps += 1
    return steps


def all_plans(standing, steps):
    """Every plan of so many phases."""
    if steps == 0:
        if sum(standing) == 1:
            yield []
        return
    for out, count in enumerate(standing):
        if count == 0:
            for many in range(1, max(standing) + 1):
                behind = [max(count - many, 0) for count in standing]
                behind[out] = many
                for plan in all_plans(tuple(behind), steps - 1):
                    yield [(out, many)] + plan


def small_standings(reels, most):
    for counts in itertools.product(range(most + 1), repeat=reels):
        if min(counts) == 0 and max(counts) > 0:
            yield counts


def some_standings():
    """Of three to eight reels, small and to 10 ** 60, in any order of reels."""
    chance = random.Random(12)
    for p in WAYS:
        for bound in (1, 2, 9, 100, 10 ** 6, 10 ** 30, 10 ** 60):
            for empty in (1, 2, p):
                counts = [chance.randint(1, bound) for _ in range(p + 1 - empty)] + [0] * empty
                chance.shuffle(counts)
                yield tuple(counts)
        for n in (0, 1, 2, 3, 7, 20, 100, 190):
            counts = list(counts_by_hand(p, n)) + [0]
            for step in (0, -1, 1):
                for place in range(p):
                    near = list(counts)
                    near[place] = max(near[place] + step, 0)
                    chance.shuffle(near)
                    if any(near):
                        yield tuple(near)
        yield (10 ** 60,) * p + (0,)
        yield (0,) * p + (10 ** 60,)


class Fewest(unittest.TestCase):
    def test_plain(self):
        self.assertEqual(fewest_phases((1, 1, 0)), (1, [(2, 1)], 1))
        self.assertEqual(fewest_phases((3, 2, 0))[0], 3)
        self.assertEqual(fewest_phases((2, 0, 3))[0], 3)
        self.assertEqual(fewest_phases((3, 3, 0))[0], 4)
        self.assertEqual(fewest_phases((4, 0, 0))[0], 4)
        self.assertEqual(fewest_phases((2, 2, 2, 1, 0))[0], 2)
        self.assertEqual(fewest_phases((2, 2, 2, 2, 0))[0], 3)
        self.assertEqual(fewest_phases((2, 2, 2, 2, 0))[2], 3)
        self.assertEqual(fewest_phases((3, 2, 2, 1, 0))[2], 0)

    def test_none_of_one_row(self):
        for reels in range(3, 9):
            for at in range(reels):
                standing = (0,) * at + (1,) + (0,) * (reels - 1 - at)
                self.assertEqual(fewest_phases(standing), (0, [], None))

    def test_the_first_level_that_has_no_less(self):
        for standing in some_standings():
            phases, plan, bar = fewest_phases(standing)
            self.assertEqual(phases, level_by_hand(standing))
            self.assertEqual(len(plan), phases)
            self.assertEqual(sum(plan_done(standing, plan)), 1)
            self.assertIn(bar, bars_by_hand(standing))

    def test_kinds(self):
        for standing in some_standings():
            told = fewest_phases(standing)
            phases, plan, bar = told
            self.assertIs(told.__class__, tuple)
            self.assertIs(phases.__class__, int)
            self.assertIs(plan.__class__, list)
            for phase in plan:
                self.assertIs(phase.__class__, tuple)
                self.assertEqual([each.__class__ for each in phase], [int, int])
            self.assertEqual(bar is None, phases == 0)
            self.assertEqual(bar.__class__ is int, phases > 0)

    def test_a_level_and_one_more(self):
        for p in WAYS:
            for n in range(1, 190):
                counts = counts_by_hand(p, n)
                self.assertEqual(fewest_phases((0,) + counts)[0], n)
                for place in range(p):
                    more = counts[:place] + (counts[place] + 1,) + counts[place + 1:]
                    # One more on a middling reel may leave the counts, the greatest first, out of their order.
                    self.assertEqual(fewest_phases(more + (0,))[0], n + 1)

    def test_at_the_bound(self):
        self.assertEqual([fewest_phases((10 ** 60,) * p + (0,))[0] for p in WAYS], [289, 229, 213, 207, 204, 203])
        for p in WAYS:
            self.assertEqual(fewest_phases((0,) * p + (10 ** 60,))[0], level_by_hand((0,) * p + (10 ** 60,)))

    def test_in_any_order_of_reels(self):
        for counts in ((5, 3, 0), (4, 0, 0), (3, 2, 2, 0), (2, 2, 1, 0)):
            many = {fewest_phases(order)[0] for order in itertools.permutations(counts)}
            self.assertEqual(len(many), 1)

    def test_against_all_plans(self):
        for reels, most in ((3, 8), (4, 4), (5, 3), (6, 2), (7, 2), (8, 1)):
            for standing in small_standings(reels, most):
                if list(standing) == sorted(standing):
                    self.assertEqual(fewest_phases(standing)[0], fewest_by_all_plans(standing), standing)


class Right(unittest.TestCase):
    def test_the_told_one(self):
        for standing in some_standings():
            self.assertIs(phases_right(standing, fewest_phases(standing)), True)

    def test_another_plan_and_another_bar(self):
        for reels, most in ((3, 4), (4, 3), (5, 2)):
            for standing in small_standings(reels, most):
                phases, told, _ = fewest_phases(standing)
                if phases > 4:
                    continue
                plans = list(itertools.islice(all_plans(standing, phases), 60))
                self.assertTrue(plans)
                for plan in plans:
                    for bar in bars_by_hand(standing):
                        self.assertIs(phases_right(standing, (phases, plan, bar)), True)
                        self.assertIs(phases_right(standing, (phases, tuple(plan), bar)), True)

    def test_each_bar(self):
        for standing in some_standings():
            phases, plan, _ = fewest_phases(standing)
            let = bars_by_hand(standing)
            for bar in (None, -1, 0, 1, 2, 3, 4, 5, 6, 7, 8, 10 ** 61):
                self.assertIs(phases_right(standing, (phases, plan, bar)), bar in let)

    def test_a_phase_more_or_less(self):
        for standing in some_standings():
            phases, plan, bar = fewest_phases(standing)
            for other in (phases - 1, phases + 1, -phases - 1, FAR, -FAR):
                self.assertIs(phases_right(standing, (other, plan, bar)), False)
            if phases:
                self.assertIs(phases_right(standing, (phases, plan[:-1], bar)), False)
                self.assertIs(phases_right(standing, (phases - 1, plan[:-1], bar)), False)
                self.assertIs(phases_right(standing, (phases, [], bar)), False)
            # One row may be written on, which makes a plan of one phase too many.
            counts = plan_done(standing, plan)
            longer = plan + [(counts.index(0), 1)]
            plan_done(standing, longer)
            for many in (phases, phases + 1):
                for other in {bar, None, 0}:
                    self.assertIs(phases_right(standing, (many, longer, other)), False)

    def test_each_phase_spoilt(self):
        for standing in ((3, 2, 0), (0, 5, 3), (2, 2, 2, 1, 0), (1, 0, 1), (7, 6, 4, 0), (13, 8, 0)):
            phases, plan, bar = fewest_phases(standing)
            for at, (out, many) in enumerate(plan):
                for other in ((out, 0), (out, -many), (out, many + FAR), (out + 1, many), (out - 1, many), (-1, many),
                              (out - len(standing), many), (len(standing), many)):
                    spoilt = plan[:at] + [other] + plan[at + 1:]
                    counts, holds = standing, True
                    for reel, rows in spoilt:
                        holds = holds and 0 <= reel < len(counts) and counts[reel] == 0 and 1 <= rows <= max(counts)
                        counts = phase_done(counts, (reel, rows)) if holds and 0 in counts else counts
                    self.assertIs(phases_right(standing, (phases, spoilt, bar)), holds and sum(counts) == 1)

    def test_each_number_of_a_phase_by_one_step(self):
        for standing in ((3, 2, 0), (0, 5, 3), (7, 6, 4, 0), (13, 8, 0)):
            # Of a level's own counts each phase has to be of the told number.
            phases, plan, bar = fewest_phases(standing)
            for at, (out, many) in enumerate(plan[:-1]):
                for step in (-1, 1):
                    spoilt = plan[:at] + [(out, many + step)] + plan[at + 1:]
                    self.assertIs(phases_right(standing, (phases, spoilt, bar)), False)

    def test_truths_are_no_numbers(self):
        self.assertIs(phases_right((1, 1, 0), (1, [(2, 1)], 1)), True)
        for told in ((True, [(2, 1)], 1), (1, [(2, True)], 1), (1, [(2, 1)], True), (1, [(2, 1)], False)):
            self.assertIs(phases_right((1, 1, 0), told), False)
        self.assertIs(phases_right((0, 1, 1), (1, [(0, 1)], 1)), True)
        self.assertIs(phases_right((0, 1, 1), (1, [(False, 1)], 1)), False)
        for told in ((False, [], None), (0, [], False), (0, [], 0), (0, [], True)):
            self.assertIs(phases_right((0, 1, 0), told), False)
        self.assertIs(phases_right((0, 1, 0), (0, (), None)), True)

    def test_a_pair_is_a_tuple_of_two(self):
        for pair in ([2, 1], (2,), (2, 1, 1), ()):
            self.assertIs(phases_right((1, 1, 0), (1, [pair], 1)), False)
        self.assertIs(phases_right((1, 1, 0), [1, [(2, 1)], 1]), False)
        self.assertIs(phases_right((1, 1, 0), (1, [(2, 1)])), False)
        for plan in (None, True, 0, 1):
            self.assertIs(phases_right((1, 1, 0), (1, plan, 1)), False)

    def test_numbers_of_sixty_one_figures(self):
        far = 10 ** 61 - 1
        for told in ((far, [(2, 1)], 1), (1, [(far, 1)], 1), (1, [(2, far)], 1), (1, [(2, 1)], far), (1, [(-far, 1)], 1)):
            self.assertIs(phases_right((1, 1, 0), told), False)


class Refused(unittest.TestCase):
    def test_no_standing(self):
        for standing in NO_STANDINGS:
            with self.assertRaises(NoStanding):
                fewest_phases(standing)
            for told in ((1, [(2, 1)], 1), (0, [], None), (), None, 5, "ab", [None], object()):
                with self.assertRaises(NoStanding):
                    phases_right(standing, told)


class Own(unittest.TestCase):
    def test_what_was_told_is_the_askers(self):
        for standing in ((3, 2, 0), (0, 0, 1), (10 ** 60, 0, 5)):
            first = fewest_phases(standing)
            kept = (first[0], list(first[1]), first[2])
            first[1].append((0, 0))
            first[1][0] = None
            self.assertEqual(fewest_phases(standing), kept)
            self.assertIsNot(fewest_phases(standing)[1], fewest_phases(standing)[1])

    def test_what_is_handed_in_stays(self):
        standing, told = (3, 2, 0), (3, [(2, 2), (1, 1), (0, 1)], 0)
        self.assertIs(phases_right(standing, told), True)
        self.assertEqual((standing, told), ((3, 2, 0), (3, [(2, 2), (1, 1), (0, 1)], 0)))


if __name__ == "__main__":
    unittest.main()
