"""[31] and [32]: fewreels.desk."""

import random
import time
import unittest

from cases import FAR, WAYS, counts_by_hand
from fewreels.best import best_reading
from fewreels.coming import came_laying
from fewreels.desk import Desk
from fewreels.errors import NoBack, NoLevel, NoLine, NoPlace, ReelError, TooMany
from fewreels.held import better_way, held_lengths
from fewreels.joins import least_join
from fewreels.texts import laying_text, log_text, read_lengths

MOST = 10 ** 12
QUESTIONS = ("show", "level", "best", "laid", "log", "held", "better")
NO_LINES = (
    "", " ", "  ", "\n", "ok", "Show", "SHOW", "sho", "shows", "show ", " show", "show 1", "show -", "show show", "show\n", "\tshow",
    "level 1", "level ", " level", "levels", "best 3", "best ", "laid 3", "laid ", "log 1", "log ", "held 1", "held ", "better 1",
    "better ", "better phases", "back 1", "back ", " back", "back back", "back 0", "undo",
    "reels", "reels ", "reels 1", "reels 8", "reels 0", "reels 9", "reels 10", "reels 02", "reels +2", "reels -2", "reels 2 3",
    "reels  2", " reels 2", "reels 2 ", "reels x", "reels 2.0", "reels -", "reels 2\n", "reels\t2", "reels " + "2" * 21,
    "reels " + "0" * 21, "reels \u0662", "reels \u00b2",
    "add", "add ", "add 0", "add 5 0", "add 0 5", "add 1000000000001", "add 5 1000000000001", "add 05", "add 5 06", "add +5", "add -5",
    "add 5  6", "add  5", "add 5 ", " add 5", "add -", "add 5 -", "add x", "add 5 x", "add 5,6", "add 5+6", "add 5:6", "add 5.0",
    "add 5\n", "add 5\t6", "add " + "9" * 14, "add " + "9" * 20, "add " + "9" * 21, "add " + "9" * 5000, "add \u0665", "add five",
    "drop", "drop ", "drop 00", "drop 01", "drop +0", "drop -1", "drop -0", "drop 0 1", "drop  0", "drop 0 ", " drop 0", "drop x",
    "drop -", "drop " + "1" * 21, "drop " + "9" * 5000, "drop \u0660", "drop 0.0",
    "counts", "counts ", "counts 61", "counts 62", "counts 300", "counts 05", "counts 00", "counts +5", "counts -1", "counts 5 6",
    "counts  5", "counts 5 ", " counts 5", "counts x", "counts -", "counts " + "9" * 20, "counts " + "1" * 21, "counts \u0665",
    "reels2", "add5", "drop0", "counts5", "5", "2 5", "add\u00a05", "hello there", "~", "%", "-",
)


def desk_with(p, lengths):
    desk = Desk()
    desk.say(f"reels {p}")
    if lengths:
        desk.say("add " + " ".join(str(length) for length in lengths))
    return desk


def answers(desk):
    """What the desk tells to all questions, or which refusal."""
    told = []
    for row in QUESTIONS + ("counts 0", "counts 7"):
        try:
            told.append(desk.say(row))
        except ReelError as refusal:
            told.append(type(refusal))
    return told


def some_lengths(seed, many, bound):
    chance = random.Random(seed)
    return [chance.randint(1, bound) for _ in range(many)]


class Questions(unittest.TestCase):
    def test_a_new_desk(self):
        desk = Desk()
        self.assertEqual(desk.say("show"), "2 -")
        self.assertEqual(desk.say("level"), "0")
        self.assertEqual(desk.say("laid"), "o -")
        self.assertEqual(desk.say("counts 5"), "8 5")

    def test_plain(self):
        desk = desk_with(2, [4, 6, 1])
        self.assertEqual(desk.say("show"), "2 4 6 1")
        self.assertEqual(desk.say("level"), "2")
        self.assertEqual(desk.say("best"), "2 5")
        self.assertEqual(desk.say("laid"), "xx x")
        self.assertEqual(desk.say("log"), "0+2 1+3")
        self.assertEqual(desk.say("held"), "16 16 16 -")
        self.assertEqual(desk.say("better"), "alike")
        desk = desk_with(3, [1, 2, 3, 10])
        self.assertEqual(desk.say("show"), "3 1 2 3 10")
        self.assertEqual(desk.say("level"), "2")
        self.assertEqual(desk.say("best"), "2 6")
        self.assertEqual(desk.say("laid"), "xx ox x")
        self.assertEqual(desk.say("log"), "0+1 2+3+4")
        self.assertEqual(desk.say("held"), "19 19 22 32")
        self.assertEqual(desk.say("better"), "phases")

    def test_no_rows(self):
        for p in WAYS:
            desk = desk_with(p, [])
            self.assertEqual(desk.say("show"), f"{p} -")
            self.assertEqual(desk.say("level"), "0")
            self.assertEqual(desk.say("laid"), "o" + " -" * (p - 1))
            for row in ("best", "log", "held", "better"):
                with self.assertRaises(NoLevel):
                    desk.say(row)

    def test_one_row(self):
        for p in WAYS:
            desk = desk_with(p, [7])
            self.assertEqual(desk.say("show"), f"{p} 7")
            self.assertEqual(desk.say("level"), "0")
            self.assertEqual(desk.say("best"), "0 0")
            self.assertEqual(desk.say("laid"), "x" + " -" * (p - 1))
            self.assertEqual(desk.say("log"), "-")
            self.assertEqual(desk.say("held"), "0 0 0 -" if p == 2 else "0 0 0 0")
            self.assertEqual(desk.say("better"), "alike")

    def test_many_rows(self):
        for p in WAYS:
            for many in (2, 3, 5, 8, 13, 30, 59, 60):
                for lengths in ([3] * many, some_lengths(many, many, 99), some_lengths(many, many, MOST)):
                    desk = desk_with(p, lengths)
                    self.assertEqual(desk.say("show"), f"{p} " + " ".join(map(str, lengths)))
                    level = min(n for n in range(20) if sum(counts_by_hand(p, n)) >= many)
                    self.assertEqual(desk.say("level"), str(level))
                    reading, level = best_reading(p, many)
                    self.assertEqual(desk.say("best"), f"{level} {reading}")
                    self.assertEqual(desk.say("laid"), laying_text(came_laying(p, many)))
                    self.assertEqual(desk.say("log"), log_text(least_join(p, lengths)[1]))
                    log, (phases, _), (cascade, _), balanced = held_lengths(p, lengths)
                    self.assertEqual(desk.say("held"), f"{log} {phases} {cascade} {'-' if p == 2 else balanced}")
                    self.assertEqual(desk.say("better"), better_way(p, lengths))

    def test_counts(self):
        for p in WAYS:
            desk = desk_with(p, [])
            for n in range(61):
                self.assertEqual(desk.say(f"counts {n}"), " ".join(map(str, counts_by_hand(p, n))))

    def test_questions_change_nothing(self):
        desk = desk_with(3, [4, 6, 1])
        told = answers(desk)
        self.assertEqual(answers(desk), told)
        self.assertEqual(desk.say("back"), "ok")
        self.assertEqual(desk.say("show"), "3 -")

    def test_greatest_within_a_few_seconds(self):
        start = time.perf_counter()
        for p in WAYS:
            answers(desk_with(p, [MOST] * 60))
            desk_with(p, []).say("counts 60")
        self.assertLess(time.perf_counter() - start, 5)


class Deeds(unittest.TestCase):
    def test_reels(self):
        desk = Desk()
        for p in WAYS:
            self.assertEqual(desk.say(f"reels {p}"), "ok")
            self.assertEqual(desk.say("show"), f"{p} -")

    def test_add(self):
        desk = Desk()
        self.assertEqual(desk.say("add 5"), "ok")
        self.assertEqual(desk.say("show"), "2 5")
        self.assertEqual(desk.say("add 1 1000000000000 3"), "ok")
        self.assertEqual(desk.say("show"), "2 5 1 1000000000000 3")
        self.assertEqual(desk.say("add 5"), "ok")
        self.assertEqual(desk.say("show"), "2 5 1 1000000000000 3 5")

    def test_drop(self):
        for at in range(4):
            desk = desk_with(3, [10, 11, 12, 13])
            self.assertEqual(desk.say(f"drop {at}"), "ok")
            self.assertEqual(desk.say("show"), "3 " + " ".join(str(10 + k) for k in range(4) if k != at))
        desk = desk_with(2, [5])
        desk.say("drop 0")
        self.assertEqual(desk.say("show"), "2 -")

    def test_back_behind_each_deed(self):
        for p in WAYS:
            for lengths in ([], [7], [4, 6, 1], some_lengths(p, 57, 99)):
                deeds = ["reels 5", f"reels {p}", "add 1", "add 7 8 9"] + [f"drop {at}" for at in range(len(lengths))][:3]
                for deed in deeds:
                    desk = desk_with(p, lengths)
                    told = answers(desk)
                    self.assertEqual(desk.say(deed), "ok")
                    self.assertEqual(desk.say("back"), "ok")
                    self.assertEqual(answers(desk), told)

    def test_deeds_that_change_nothing_count_too(self):
        desk = Desk()
        desk.say("add 5")
        desk.say("reels 2")
        desk.say("reels 2")
        for shown in ("2 5", "2 5", "2 -"):
            self.assertEqual(desk.say("back"), "ok")
            self.assertEqual(desk.say("show"), shown)
        with self.assertRaises(NoBack):
            desk.say("back")

    def test_a_back_is_not_taken_back(self):
        desk = Desk()
        desk.say("add 1")
        desk.say("add 2")
        desk.say("back")
        desk.say("back")
        self.assertEqual(desk.say("show"), "2 -")
        with self.assertRaises(NoBack):
            desk.say("back")

    def test_deeds_behind_a_back(self):
        desk = Desk()
        for row in ("add 1", "add 2", "back", "add 3", "reels 4"):
            desk.say(row)
        self.assertEqual(desk.say("show"), "4 1 3")
        for shown in ("2 1 3", "2 1", "2 -"):
            desk.say("back")
            self.assertEqual(desk.say("show"), shown)

    def test_many_deeds_taken_back_one_by_one(self):
        chance = random.Random(31)
        desk = Desk()
        shown = [desk.say("show")]
        p, lengths = 2, []
        for _ in range(1000):
            kind = chance.randrange(5)
            if kind == 0:
                p = chance.randint(2, 7)
                row = f"reels {p}"
            elif kind in (1, 2) and len(lengths) < 57:
                more = [chance.randint(1, 50) for _ in range(chance.randint(1, 3))]
                lengths = lengths + more
                row = "add " + " ".join(map(str, more))
            elif kind in (3, 4) and lengths:
                at = chance.randrange(len(lengths))
                lengths = lengths[:at] + lengths[at + 1:]
                row = f"drop {at}"
            else:
                continue
            self.assertEqual(desk.say(row), "ok")
            shown.append(desk.say("show"))
            self.assertEqual(shown[-1], f"{p} " + (" ".join(map(str, lengths)) or "-"))
        self.assertGreater(len(shown), 500)
        while len(shown) > 1:
            self.assertEqual(desk.say("show"), shown.pop())
            self.assertEqual(desk.say("back"), "ok")
        self.assertEqual(desk.say("show"), "2 -")
        with self.assertRaises(NoBack):
            desk.say("back")

    def test_two_desks(self):
        one, other = Desk(), Desk()
        one.say("add 5 6")
        one.say("reels 4")
        self.assertEqual(other.say("show"), "2 -")
        with self.assertRaises(NoBack):
            other.say("back")
        other.say("add 9")
        self.assertEqual(one.say("show"), "4 5 6")
        one.say("back")
        one.say("back")
        self.assertEqual(other.say("show"), "2 9")
        self.assertEqual(one.say("show"), "2 -")

    def test_sixty_rows(self):
        desk = Desk()
        desk.say("add " + " ".join(["1"] * 60))
        self.assertEqual(desk.say("show"), "2" + " 1" * 60)
        desk = desk_with(2, [1] * 59)
        self.assertEqual(desk.say("add 2"), "ok")
        self.assertEqual(read_lengths(desk.say("show")[2:]), [1] * 59 + [2])


class Refused(unittest.TestCase):
    def refused(self, desk, row, refusal):
        """That the row is so refused, nothing is changed by it, and back takes back the last deed that was let."""
        told = answers(desk)
        with self.assertRaises(refusal):
            desk.say(row)
        self.assertEqual(answers(desk), told)

    def test_no_line(self):
        for p, lengths in ((2, []), (3, [7]), (7, [4, 6, 1]), (2, [1] * 60)):
            desk = desk_with(p, lengths)
            shown = desk.say("show")
            for row in NO_LINES:
                with self.assertRaises(NoLine, msg=row):
                    desk.say(row)
                self.assertEqual(desk.say("show"), shown)

    def test_no_line_at_a_new_desk(self):
        # There would be no deed to take back, no rows and no place as well.
        for row in NO_LINES:
            with self.assertRaises(NoLine, msg=row):
                Desk().say(row)

    def test_no_line_ahead_of_too_many(self):
        full = desk_with(2, [1] * 60)
        for desk, many in ((full, 0), (Desk(), 60), (Desk(), 400)):
            for word in ("0", "x", "05", "", "+5", str(MOST + 1), "9" * 21, "-", "1:2"):
                for words in ([word] + ["1"] * many, ["1"] * many + [word]):
                    self.refused(desk, "add " + " ".join(words), NoLine)

    def test_no_back(self):
        self.refused(Desk(), "back", NoBack)
        desk = desk_with(3, [5])
        desk.say("back")
        desk.say("back")
        self.refused(desk, "back", NoBack)
        desk.say("add 5")
        self.assertEqual(desk.say("back"), "ok")
        self.refused(desk, "back", NoBack)

    def test_refused_deeds_and_questions_are_no_deeds(self):
        desk = Desk()
        for row in ("add 0", "drop 0", "reels 8", "add" + " 1" * 61, "best", "show", "level", "counts 3"):
            try:
                desk.say(row)
            except ReelError:
                pass
        self.refused(desk, "back", NoBack)

    def test_too_many(self):
        self.refused(Desk(), "add" + " 1" * 61, TooMany)
        self.refused(Desk(), "add" + " 1" * 400, TooMany)
        self.refused(desk_with(2, [1] * 60), "add 1", TooMany)
        self.refused(desk_with(2, [1] * 59), "add 1 2", TooMany)
        self.refused(desk_with(2, [1]), "add" + " 1" * 60, TooMany)

    def test_no_place(self):
        self.refused(Desk(), "drop 0", NoPlace)
        for at in (3, 4, 60, 10 ** 12, 10 ** 20 - 1):
            self.refused(desk_with(2, [4, 6, 1]), f"drop {at}", NoPlace)
        desk = desk_with(2, [4])
        desk.say("drop 0")
        self.refused(desk, "drop 0", NoPlace)

    def test_no_level(self):
        for p in WAYS:
            for row in ("best", "log", "held", "better"):
                desk = desk_with(p, [])
                with self.assertRaises(NoLevel):
                    desk.say(row)
                self.assertEqual(desk.say("show"), f"{p} -")
                desk.say("add 5")
                desk.say(row)
                desk.say("drop 0")
                with self.assertRaises(NoLevel):
                    desk.say(row)

    def test_back_takes_back_the_last_deed_that_was_let(self):
        for row in NO_LINES + ("add" + " 1" * 60, "drop 3", "drop " + "9" * 20):
            desk = desk_with(3, [4, 6])
            desk.say("add 1")
            with self.assertRaises(ReelError):
                desk.say(row)
            self.assertEqual(desk.say("show"), "3 4 6 1")
            desk.say("back")
            self.assertEqual(desk.say("show"), "3 4 6")
        desk = Desk()
        desk.say("reels 4")
        for row in ("best", "log", "held", "better", "drop 0"):
            with self.assertRaises(ReelError):
                desk.say(row)
        desk.say("back")
        self.assertEqual(desk.say("show"), "2 -")

    def test_whatever_text(self):
        chance = random.Random(32)
        words = ("add", "drop", "reels", "back", "show", "level", "counts", "best", "laid", "log", "held", "better", "0", "1", "2", "7", "8",
                 "60", "61", "00", "x", "-", "", str(FAR), "+1")
        desk = Desk()
        for _ in range(4000):
            row = " ".join(chance.choice(words) for _ in range(chance.randint(1, 3)))
            shown = desk.say("show")
            try:
                told = desk.say(row)
            except ReelError as refusal:
                self.assertIn(type(refusal), (NoLine, NoBack, TooMany, NoPlace, NoLevel))
                self.assertEqual(desk.say("show"), shown)
            else:
                self.assertIs(type(told), str)
                self.assertEqual(told == "ok", row.split(" ")[0] in ("add", "drop", "reels", "back"))


if __name__ == "__main__":
    unittest.main()
