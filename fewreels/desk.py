"""Stage 14: a desk that keeps rows by their lengths, is told deeds and asked questions."""

from fewreels.best import best_reading
from fewreels.coming import came_laying
from fewreels.errors import NoBack, NoLevel, NoLine, NoPlace, TooMany
from fewreels.held import better_way, held_lengths
from fewreels.joins import least_join
from fewreels.levels import LEAST_WAYS, MOST_WAYS, level_counts, level_of
from fewreels.texts import MOST_LENGTHS, NONE, is_length, laying_text, lengths_text, log_text, number_read

LAST_SHOWN = 60
NEED_ROWS = ("best", "log", "held", "better")


def show_told(p, lengths):
    """The ways and the lengths."""
    return f"{p} {lengths_text(lengths)}"


def level_told(p, lengths):
    """The least level whose total is no less than how many rows there are."""
    return str(level_of(p, len(lengths)) if lengths else 0)


def best_told(p, lengths):
    """The level and the least reading of so many like rows."""
    reading, level = best_reading(p, len(lengths))
    return f"{level} {reading}"


def laid_told(p, lengths):
    """The laying as they come."""
    return laying_text(came_laying(p, len(lengths)))


def log_told(p, lengths):
    """The least log."""
    reading, log = least_join(p, lengths)
    return log_text(log)


def held_told(p, lengths):
    """The four readings alone."""
    log, (phases, level), (cascade, last), balanced = held_lengths(p, lengths)
    return f"{log} {phases} {cascade} {NONE if balanced is None else balanced}"


def better_told(p, lengths):
    """Which way reads less."""
    return better_way(p, lengths)


QUESTIONS = {
    "show": show_told,
    "level": level_told,
    "best": best_told,
    "laid": laid_told,
    "log": log_told,
    "held": held_told,
    "better": better_told,
}


def counts_told(p, n):
    """The counts of a level."""
    return lengths_text(level_counts(p, n))


def reels_done(p, lengths, numbers):
    """The ways and the rows behind `reels`."""
    return (numbers[0], lengths)


def add_done(p, lengths, numbers):
    """The ways and the rows behind `add`."""
    if len(lengths) + len(numbers) > MOST_LENGTHS:
        raise TooMany(f"a desk keeps at most {MOST_LENGTHS} rows")
    return (p, lengths + tuple(numbers))


def drop_done(p, lengths, numbers):
    """The ways and the rows behind `drop`."""
    at = numbers[0]
    if at >= len(lengths):
        raise NoPlace("there is no such row")
    return (p, lengths[:at] + lengths[at + 1:])


DEEDS = {"reels": reels_done, "add": add_done, "drop": drop_done}


def fits_head(head, numbers):
    """Whether a row of words with this head may have these numbers."""
    if head == "reels":
        return len(numbers) == 1 and LEAST_WAYS <= numbers[0] <= MOST_WAYS
    if head == "add":
        return len(numbers) > 0 and all([is_length(number) for number in numbers])
    if head == "drop":
        return len(numbers) == 1
    if head == "counts":
        return len(numbers) == 1 and numbers[0] <= LAST_SHOWN
    return len(numbers) == 0 and (head == "back" or head in QUESTIONS)


def line_read(row):
    """The head and the numbers of a row of words that a desk knows."""
    words = row.split(" ")
    head = words[0]
    numbers = [number_read(word) for word in words[1:]]
    if None in numbers or not fits_head(head, numbers):
        raise NoLine("a desk knows no such row of words")
    return (head, numbers)


class Desk:
    """A desk with its ways, its rows by their lengths, and what was ahead of each deed that isn't taken back."""

    def __init__(self):
        self.ways = LEAST_WAYS
        self.lengths = ()
        self.past = []

    def say(self, row):
        """Do the deed or answer the question that the row of words tells."""
        head, numbers = line_read(row)
        if head == "counts":
            return counts_told(self.ways, numbers[0])
        if head in QUESTIONS:
            return self.answer(head)
        if head == "back":
            self.take_back()
        else:
            self.do_deed(head, numbers)
        return "ok"

    def answer(self, head):
        """What is told to a question."""
        if head in NEED_ROWS and not self.lengths:
            raise NoLevel("there are no rows")
        question = QUESTIONS[head]
        return question(self.ways, self.lengths)

    def take_back(self):
        """Make all as it was ahead of the last deed that isn't taken back."""
        if not self.past:
            raise NoBack("no deed is left to be taken back")
        self.ways, self.lengths = self.past.pop()

    def do_deed(self, head, numbers):
        """Do a deed, keeping what was ahead of it."""
        ahead = (self.ways, self.lengths)
        deed = DEEDS[head]
        self.ways, self.lengths = deed(self.ways, self.lengths, numbers)
        self.past.append(ahead)
