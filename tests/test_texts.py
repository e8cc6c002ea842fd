"""[30]: fewreels.texts."""

import copy
import random
import time
import unittest

from cases import FAR, WAYS, counts_by_hand
from fewreels.coming import came_laying
from fewreels.errors import NoText
from fewreels.fewest import fewest_phases
from fewreels.joins import least_join
from fewreels.playing import level_phases
from fewreels.texts import laying_text, lengths_text, log_text, phases_text, read_laying, read_lengths, read_phases

MOST = 10 ** 12
NO_TEXTS = (None, True, False, 0, 1, 5, -1, FAR, 10 ** 5000, [], ["5"], [5], (), ("5",), ("x", "o"), {}, {"5": 1}, {"5"}, b"", b"5",
            b"x o", b"1:2", b"-", int, len, object(), range(3), ["-"], str)
# Whatever no text of any of the three sorts is.
NEVER = ("", " ", "  ", "- ", " -", "--", "-  -", "- - ", " - -", "\n", "\t", "-\n", "+", ":", "%", "~", "\u0661", "\u00b2",
         "\u00a0", "\x00", "x", "o", "X O", "5 x", "x 5", "5 1:2", "1:2 5", "1:2 x", "x 1:2", "x\to", "1\t2", "1:2\t3:4",
         "5\n", "x o\n", "1:2\n", "5\n6", "+5", "5+6", "5,6", "5.0", "1e3", "5_0", "0x5", "five", "None", "0005", "00", "-5", "-0",
         "5 -", "- 5", "- 1:2", "1:2 -", "\u0665", "\uff15", "\U0001d7d3", "1:\u0662", "\u0661:2", "x\u043e o")


def refused(ask, thing):
    try:
        ask(thing)
    except NoText:
        return True
    return False


class Written(unittest.TestCase):
    def test_lengths(self):
        self.assertEqual(lengths_text([]), "-")
        self.assertEqual(lengths_text([7]), "7")
        self.assertEqual(lengths_text([4, 6, 1]), "4 6 1")
        self.assertEqual(lengths_text([0, MOST, 10, 100]), "0 1000000000000 10 100")
        self.assertEqual(lengths_text([1] * 60), " ".join(["1"] * 60))

    def test_layings(self):
        self.assertEqual(laying_text(((True, True, False), (False, True))), "xxo ox")
        self.assertEqual(laying_text(((True,), ())), "x -")
        self.assertEqual(laying_text(((), (), (False,))), "- - o")
        self.assertEqual(laying_text(((),) * 7), "- - - - - - -")
        self.assertEqual(laying_text(((True,) * 150, (False,) * 150)), "x" * 150 + " " + "o" * 150)

    def test_phases(self):
        self.assertEqual(phases_text([]), "-")
        self.assertEqual(phases_text([(2, 5)]), "2:5")
        self.assertEqual(phases_text([(2, 2), (1, 1), (0, 1)]), "2:2 1:1 0:1")
        self.assertEqual(phases_text([(0, FAR)]), f"0:{FAR}")

    def test_logs(self):
        self.assertEqual(log_text([]), "-")
        self.assertEqual(log_text([(0, 1)]), "0+1")
        self.assertEqual(log_text([(0, 2), (1, 3)]), "0+2 1+3")
        self.assertEqual(log_text([(0, 1, 2, 3, 4, 5, 6)]), "0+1+2+3+4+5+6")
        self.assertEqual(log_text([(5,), (10, 100)]), "5 10+100")
        self.assertEqual(log_text([(3, 2, 2), (FAR, 0)]), f"3+2+2 {FAR}+0")
        self.assertEqual(log_text([(-1, 5)]), "-1+5")

    def test_tuples_do_as_lists(self):
        self.assertEqual(lengths_text((4, 6)), "4 6")
        self.assertEqual(lengths_text(()), "-")
        self.assertEqual(phases_text(((2, 2), (1, 1))), "2:2 1:1")
        self.assertEqual(phases_text(()), "-")
        self.assertEqual(log_text(((0, 2), (1, 3))), "0+2 1+3")
        self.assertEqual(log_text(()), "-")

    def test_what_was_told(self):
        for p in WAYS:
            self.assertEqual(laying_text(came_laying(p, 0)), " ".join(["o"] + ["-"] * (p - 1)))
            self.assertEqual(log_text(least_join(p, [1] * p)[1]), "+".join(str(k) for k in range(p)))
            self.assertEqual(len(phases_text(level_phases(p, 300)).split(" ")), 300)
            standing = tuple(counts_by_hand(p, 5)) + (0,)
            self.assertEqual(read_phases(phases_text(fewest_phases(standing)[1])), fewest_phases(standing)[1])


class ReadBack(unittest.TestCase):
    def test_lengths(self):
        self.assertEqual(read_lengths("-"), [])
        self.assertEqual(read_lengths("7"), [7])
        self.assertEqual(read_lengths("4 6 1"), [4, 6, 1])
        chance = random.Random(30)
        for many in range(61):
            lengths = [chance.choice((1, 9, 10, 99, MOST, MOST - 1, chance.randint(1, MOST))) for _ in range(many)]
            self.assertEqual(read_lengths(lengths_text(lengths)), lengths)
            self.assertIs(type(read_lengths(lengths_text(lengths))), list)

    def test_layings(self):
        self.assertEqual(read_laying("xxo ox"), ((True, True, False), (False, True)))
        self.assertEqual(read_laying("x -"), ((True,), ()))
        self.assertEqual(read_laying("- -"), ((), ()))
        self.assertEqual(read_laying("oo o"), ((False, False), (False,)))
        chance = random.Random(31)
        for _ in range(300):
            laying = tuple(tuple(chance.random() < 0.5 for _ in range(chance.choice((0, 1, 2, 5, 42))))
                           for _ in range(chance.randint(2, 7)))
            read = read_laying(laying_text(laying))
            self.assertEqual(read, laying)
            self.assertIs(type(read), tuple)
            for reel in read:
                self.assertIs(type(reel), tuple)
                self.assertTrue(all(real is True or real is False for real in reel))

    def test_phases(self):
        self.assertEqual(read_phases("-"), [])
        self.assertEqual(read_phases("2:5"), [(2, 5)])
        self.assertEqual(read_phases("0:0 10:100"), [(0, 0), (10, 100)])
        chance = random.Random(32)
        for many in range(101):
            phases = [(chance.randrange(10 ** chance.randint(1, 20)), chance.randrange(10 ** chance.randint(1, 20)))
                      for _ in range(many)]
            read = read_phases(phases_text(phases))
            self.assertEqual(read, phases)
            self.assertIs(type(read), list)
            self.assertTrue(all(type(phase) is tuple for phase in read))

    def test_the_edges(self):
        self.assertEqual(read_lengths(f"1 {MOST}"), [1, MOST])
        self.assertEqual(read_lengths(" ".join([str(MOST)] * 60)), [MOST] * 60)
        self.assertEqual(read_laying(" ".join(["-"] * 7)), ((),) * 7)
        self.assertEqual(read_laying("x" * 300 + " -"), ((True,) * 300, ()))
        self.assertEqual(read_laying("x" * 150 + " " + "o" * 150), ((True,) * 150, (False,) * 150))
        self.assertEqual(read_phases(" ".join(["0:1"] * 100)), [(0, 1)] * 100)
        self.assertEqual(read_phases(f"{10 ** 20 - 1}:{10 ** 20 - 1}"), [(10 ** 20 - 1, 10 ** 20 - 1)])

    def test_within_a_few_seconds(self):
        start = time.perf_counter()
        for _ in range(50):
            read_lengths(lengths_text([MOST] * 60))
            read_laying(laying_text(((True,) * 150, (False,) * 150)))
            read_phases(phases_text([(10 ** 20 - 1, 10 ** 20 - 1)] * 100))
        self.assertLess(time.perf_counter() - start, 5)


class Refused(unittest.TestCase):
    def test_what_is_no_text(self):
        for ask in (read_lengths, read_laying, read_phases):
            for thing in NO_TEXTS:
                self.assertTrue(refused(ask, thing), (ask, thing))

    def test_what_is_never_written(self):
        for ask in (read_lengths, read_laying, read_phases):
            for text in NEVER:
                self.assertTrue(refused(ask, text), (ask, text))

    def test_no_lengths(self):
        for text in ("0", "5 0", "0 5", str(MOST + 1), f"5 {MOST + 1}", "05", "5 06", "5  6", " 5", "5 ", "5 6 ", "+5", "-5", "5 -",
                     "- 5", "5 - 6", "1:2", "1+2", "x o", " ".join(["1"] * 61), " ".join(["1"] * 400), "9" * 14, "9" * 20, "9" * 21,
                     "9" * 5000, "1" + "0" * 13, "5;6", "5\t6", "- -"):
            self.assertTrue(refused(read_lengths, text), text)

    def test_no_layings(self):
        for text in ("-", "x", "xo", "oxo", "xx ", " x x", "x  x", "x x ", "xX x", "X X", "0 x", "x 0", "x -- ", "x --", "x-", "x- o",
                     "-x o", "x y", "x o-", "x,o", "x:o", "x+o", "5 6", "1:2 2:3", " ".join(["x"] * 8), " ".join(["-"] * 8),
                     " ".join(["-"] * 9), "x" * 301 + " -", "x" * 300 + " o", "x" * 151 + " " + "o" * 150,
                     " ".join(["x" * 43] * 7), "x" * 5000 + " x", "- -\n"):
            self.assertTrue(refused(read_laying, text), text)
        self.assertEqual(len(read_laying(" ".join(["x" * 42] * 7))), 7)

    def test_no_phases(self):
        for text in ("1", "1:", ":1", ":", "1:2:3", "1::2", "1:2 ", " 1:2", "1:2  3:4", "01:2", "1:02", "00:1", "+1:2", "1:+2", "-1:2",
                     "1:-2", "1: 2", "1 :2", "1:2 3", "3 1:2", "1:2 -", "- 1:2", "1:2,3:4", "1:x", "x:1", "1+2", "1.0:2",
                     " ".join(["0:1"] * 101), " ".join(["0:1"] * 400), "1" * 21 + ":1", "1:" + "1" * 21, "1:" + "9" * 5000,
                     "0" * 20 + ":1", "- -", "5 6"):
            self.assertTrue(refused(read_phases, text), text)

    def test_each_text_spoilt_by_a_sign(self):
        chance = random.Random(33)
        texts = ((read_lengths, lengths_text, "4 60 1"), (read_lengths, lengths_text, "-"), (read_laying, laying_text, "xxo ox -"),
                 (read_phases, phases_text, "2:20 1:1 0:1"), (read_phases, phases_text, "-"))
        signs = " -+:xo0159~a.\n\t"
        lets = 0
        for ask, write, text in texts:
            for at in range(len(text) + 1):
                spoilt = [text[:at] + sign + text[at:] for sign in signs]
                spoilt += [text[:at] + text[at + 1:]] + [text[:at] + sign + text[at + 1:] for sign in signs]
                for other in spoilt:
                    # What is read back is just what is so written: written again it is the very same text.
                    if not refused(ask, other):
                        self.assertEqual(write(ask(other)), other)
                        lets += 1
        self.assertGreater(lets, 50)
        for _ in range(3000):
            other = "".join(chance.choice(" -:xo019") for _ in range(chance.randint(0, 7)))
            for ask, write in ((read_lengths, lengths_text), (read_laying, laying_text), (read_phases, phases_text)):
                if not refused(ask, other):
                    self.assertEqual(write(ask(other)), other)

    def test_a_nought_alone(self):
        self.assertEqual(read_phases("0:0"), [(0, 0)])
        self.assertTrue(refused(read_phases, "0:00"))
        self.assertTrue(refused(read_lengths, "0"))


class Own(unittest.TestCase):
    def test_what_is_handed_in_stays(self):
        for write, thing in ((lengths_text, [4, 6, 1]), (phases_text, [(2, 2), (1, 1)]), (log_text, [(0, 1), (2, 3)])):
            kept = copy.deepcopy(thing)
            self.assertEqual(write(thing), write(kept))
            self.assertEqual(thing, kept)

    def test_what_was_told_is_the_askers(self):
        for ask, text in ((read_lengths, "4 6 1"), (read_phases, "2:2 1:1"), (read_lengths, "-"), (read_phases, "-")):
            told = ask(text)
            kept = copy.deepcopy(told)
            told.append(None)
            self.assertEqual(ask(text), kept)


if __name__ == "__main__":
    unittest.main()
