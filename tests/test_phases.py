"""[11]: fewreels.phases."""

import random
import unittest

from cases import FAR, NO_STANDINGS
from fewreels.errors import NoPhase, NoStanding
from fewreels.phases import phase_done, plan_done


def done_by_hand(counts, out, many):
    """A phase done merging by merging, for few rows."""
    reels = list(counts)
    for _ in range(many):
        for reel in range(len(reels)):
            if reel != out and reels[reel] > 0:
                reels[reel] -= 1
        reels[out] += 1
    return tuple(reels)


def some_standings():
    chance = random.Random(11)
    for reels in range(3, 9):
        for bound in (1, 2, 5, 30):
            for _ in range(12):
                counts = [chance.randint(0, bound) for _ in range(reels)]
                counts[chance.randrange(reels)] = 0
                if any(counts):
                    yield tuple(counts)


class Asking(unittest.TestCase):
    def no_phase(self, at, ask, standing, what):
        with self.assertRaises(NoPhase) as caught:
            ask(standing, what)
        self.assertEqual(caught.exception.at, at)
        self.assertIs(caught.exception.at.__class__, int)


class PhaseDone(Asking):
    def test_plain(self):
        self.assertEqual(phase_done((3, 2, 0), (2, 2)), (1, 0, 2))
        self.assertEqual(phase_done((3, 0, 2), (1, 1)), (2, 1, 1))
        self.assertEqual(phase_done((0, 5, 3), (0, 4)), (4, 1, 0))
        self.assertEqual(phase_done((0, 0, 5, 3), (1, 2)), (0, 2, 3, 1))

    def test_of_one_reel_alone(self):
        self.assertEqual(phase_done((5, 0, 0), (1, 3)), (2, 3, 0))
        self.assertEqual(phase_done((1, 0, 0), (2, 1)), (0, 0, 1))

    def test_least_middling_greatest(self):
        self.assertEqual(phase_done((7, 4, 0, 9), (2, 1)), (6, 3, 1, 8))
        self.assertEqual(phase_done((7, 4, 0, 9), (2, 5)), (2, 0, 5, 4))
        self.assertEqual(phase_done((7, 4, 0, 9), (2, 9)), (0, 0, 9, 0))

    def test_each_that_there_is(self):
        for standing in some_standings():
            for out in range(len(standing)):
                for many in range(1, max(standing) + 1):
                    if standing[out] == 0:
                        told = phase_done(standing, (out, many))
                        self.assertIs(told.__class__, tuple)
                        self.assertEqual(told, done_by_hand(standing, out, many))
                    else:
                        self.no_phase(0, phase_done, standing, (out, many))

    def test_the_reel_is_not_empty(self):
        for out in (0, 1):
            for many in (1, 2, 3, 0):
                self.no_phase(0, phase_done, (3, 2, 0), (out, many))

    def test_no_reel(self):
        for standing in ((0, 1, 0), (0,) * 7 + (4,), (2, 0, 0, 1)):
            reels = len(standing)
            for out in (reels, reels + 1, -1, -2, -reels, -reels - 1, FAR, -FAR, 10 ** 61 - 1, 1 - 10 ** 61):
                self.no_phase(0, phase_done, standing, (out, 1))

    def test_no_number(self):
        for many in (0, -1, -3, 4, 5, FAR, -FAR, 10 ** 61 - 1, 1 - 10 ** 61):
            self.no_phase(0, phase_done, (3, 2, 0), (2, many))
            self.no_phase(0, phase_done, (0, 0, 3), (0, many))

    def test_counts_of_just_the_bound(self):
        most = 10 ** 60
        self.assertEqual(phase_done((most, 0, 1), (1, most)), (0, most, 0))
        self.assertEqual(phase_done((most, 0, most), (1, 1)), (most - 1, 1, most - 1))
        self.assertEqual(phase_done((0,) + (most,) * 7, (0, most - 1)), (most - 1,) + (1,) * 7)
        self.no_phase(0, phase_done, (most, 0, most), (1, most + 1))

    def test_a_truth_is_no_number(self):
        for phase in ((True, 1), (1, True), (False, 1), (True, True)):
            self.no_phase(0, phase_done, (0, 0, 3), phase)


class PlanDone(Asking):
    def test_plain(self):
        self.assertEqual(plan_done((3, 2, 0), [(2, 2), (1, 1), (0, 1)]), (1, 0, 0))
        self.assertEqual(plan_done((1, 1, 0), [(2, 1)]), (0, 0, 1))
        self.assertEqual(plan_done((5, 0, 0), [(1, 3), (2, 2), (0, 1), (1, 1)]), (0, 1, 0))

    def test_none_of_one_row(self):
        for standing in ((1, 0, 0), (0, 1, 0), (0, 0, 1), (0,) * 7 + (1,)):
            for plan in ([], ()):
                told = plan_done(standing, plan)
                self.assertIs(told.__class__, tuple)
                self.assertEqual(told, standing)

    def test_on_behind_one_row(self):
        self.assertEqual(plan_done((1, 0, 0), [(1, 1), (2, 1), (0, 1), (1, 1)]), (0, 1, 0))
        self.assertEqual(plan_done((0, 1, 0), [(2, 1)] + [(0, 1), (2, 1)] * 200), (0, 0, 1))

    def test_more_than_one_row_left(self):
        self.no_phase(0, plan_done, (1, 1, 0), [])
        self.no_phase(0, plan_done, (2, 0, 0), ())
        self.no_phase(1, plan_done, (3, 2, 0), [(2, 2)])
        self.no_phase(2, plan_done, (3, 2, 0), [(2, 2), (1, 1)])
        self.no_phase(1, plan_done, (2, 0, 0), [(1, 2)])
        self.no_phase(1, plan_done, (10 ** 60, 10 ** 60, 0), [(2, 10 ** 60)])

    def test_the_first_that_is_none_there(self):
        plan = [(2, 2), (1, 1), (0, 1)]
        for at in range(3):
            for spoilt in ((plan[at][0], 0), (plan[at][0], -1), (plan[at][0], 9), (3, 1), (-1, 1),
                           (10 ** 61 - 1, 1), (plan[at][0], 10 ** 61 - 1), (plan[at][0], 1 - 10 ** 61)):
                self.no_phase(at, plan_done, (3, 2, 0), plan[:at] + [spoilt] + plan[at + 1:])
                self.no_phase(at, plan_done, (3, 2, 0), tuple(plan[:at] + [spoilt]))
        self.no_phase(0, plan_done, (3, 2, 0), [(0, 1), (9, 9), (0, 0)])
        self.no_phase(1, plan_done, (3, 2, 0), [(2, 2), (2, 1), (1, 1)])
        self.no_phase(2, plan_done, (3, 2, 0), [(2, 2), (1, 1), (1, 1)])
        self.no_phase(3, plan_done, (3, 2, 0), plan + [(0, 1)])

    def test_the_greatest_of_the_counts_there(self):
        # What is let hangs on the counts behind the phases ahead, not on the first ones.
        self.no_phase(1, plan_done, (3, 2, 0), [(2, 2), (1, 3)])
        self.assertEqual(plan_done((3, 2, 0), [(2, 2), (1, 2), (0, 1), (2, 1)])[2], 1)

    def test_no_reel_is_empty_any_more(self):
        for out in range(3):
            self.no_phase(1, plan_done, (0, 5, 3), [(0, 2), (out, 1)])

    def test_a_list_and_a_tuple(self):
        plan = [(2, 2), (1, 1), (0, 1)]
        self.assertEqual(plan_done((3, 2, 0), tuple(plan)), plan_done((3, 2, 0), plan))

    def test_walked_to_one_row(self):
        chance = random.Random(12)
        for standing in some_standings():
            counts, plan = standing, []
            while sum(counts) > 1:
                # As many as the least count there lets, so that a reel gets empty.
                out = chance.choice([reel for reel, count in enumerate(counts) if count == 0])
                least = min(count for count in counts if count > 0)
                many = least if sum(count > 0 for count in counts) > 1 else chance.randint(1, max(1, least - 1))
                plan.append((out, many))
                counts = done_by_hand(counts, out, many)
            self.assertEqual(plan_done(standing, plan), counts)
            self.assertEqual(plan_done(standing, tuple(plan)), counts)
            if plan:
                self.no_phase(len(plan) - 1, plan_done, standing, plan[:-1])

    def test_counts_of_just_the_bound(self):
        most = 10 ** 60
        self.assertEqual(plan_done((0, 1, 0), [(0, 1)]), (1, 0, 0))
        self.no_phase(2, plan_done, (most, 1, 0), [(2, most), (0, most)])
        self.no_phase(2, plan_done, (most, 1, 0), [(2, most), (0, most), (0, 1)])


class Standing(unittest.TestCase):
    def test_no_standing(self):
        for standing in NO_STANDINGS:
            with self.subTest(kind=standing.__class__):
                with self.assertRaises(NoStanding):
                    phase_done(standing, (0, 1))
                with self.assertRaises(NoStanding):
                    plan_done(standing, [(0, 1)])
                with self.assertRaises(NoStanding):
                    plan_done(standing, [])

    def test_ahead_of_all_else(self):
        for standing in NO_STANDINGS:
            for other in ((9, 9), (-1, 0), (), None, 5, "ab", [None], [(9, 9)], object()):
                with self.assertRaises(NoStanding):
                    phase_done(standing, other)
                with self.assertRaises(NoStanding):
                    plan_done(standing, other)

    def test_three_to_eight_reels(self):
        for reels in range(3, 9):
            standing = (2,) * (reels - 1) + (0,)
            self.assertEqual(phase_done(standing, (reels - 1, 2)), (0,) * (reels - 1) + (2,))
            self.assertEqual(plan_done((0,) * (reels - 1) + (1,), []), (0,) * (reels - 1) + (1,))


class Own(unittest.TestCase):
    def test_what_is_handed_in_stays(self):
        standing, plan, phase = (3, 2, 0), [(2, 2), (1, 1), (0, 1)], (2, 2)
        phase_done(standing, phase)
        plan_done(standing, plan)
        with self.assertRaises(NoPhase):
            plan_done(standing, plan + plan)
        self.assertEqual((standing, plan, phase), ((3, 2, 0), [(2, 2), (1, 1), (0, 1)], (2, 2)))

    def test_a_refusal_keeps_nothing(self):
        for _ in range(2):
            with self.assertRaises(NoPhase) as caught:
                plan_done((3, 2, 0), [(2, 2), (1, 1)])
            self.assertEqual(caught.exception.at, 2)
            self.assertEqual(plan_done((3, 2, 0), [(2, 2), (1, 1), (0, 1)]), (1, 0, 0))


if __name__ == "__main__":
    unittest.main()
