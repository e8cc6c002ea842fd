"""Stage 14: lengths, layings, phases and logs written as texts, and read back."""

from fewreels.errors import NoText
from fewreels.levels import LEAST_WAYS, MOST_WAYS

FIGURES = "0123456789"
MOST_FIGURES = 20
MOST_LENGTH = 10 ** 12
MOST_LENGTHS = 60
MOST_WRITTEN = 300
MOST_PHASES = 100
NONE = "-"
REAL = "x"
IDLE = "o"


def words_text(words):
    """The words with a blank between two, or what is written for none."""
    return " ".join(words) if words else NONE


def lengths_text(lengths):
    """The lengths as a text."""
    return words_text([str(length) for length in lengths])


def reel_text(on_reel):
    """One reel of a laying as a word."""
    return "".join([REAL if real else IDLE for real in on_reel]) if on_reel else NONE


def laying_text(laying):
    """The laying as a text."""
    return " ".join([reel_text(on_reel) for on_reel in laying])


def phases_text(phases):
    """The phases as a text."""
    return words_text([":".join([str(number) for number in phase]) for phase in phases])


def log_text(log):
    """The log as a text."""
    return words_text(["+".join([str(number) for number in joining]) for joining in log])


def number_read(word):
    """The number that is written so, None where the word is none of at most twenty figures."""
    if not 1 <= len(word) <= MOST_FIGURES or not all([sign in FIGURES for sign in word]):
        return None
    return None if word[0] == "0" and len(word) > 1 else int(word)


def is_length(number):
    """Whether a number that was read is the length of a row."""
    return number is not None and 1 <= number <= MOST_LENGTH


def words_read(thing):
    """The words of a text, none where that is written for none; refused where it is no text."""
    if not isinstance(thing, str):
        raise NoText("what is read back is a text")
    return [] if thing == NONE else thing.split(" ")


def read_lengths(thing):
    """The lengths that are written so, of anything."""
    lengths = [number_read(word) for word in words_read(thing)]
    if len(lengths) > MOST_LENGTHS or not all([is_length(length) for length in lengths]):
        raise NoText("lengths are at most sixty numbers from 1 to 10 ** 12, a blank between two")
    return lengths


def is_reel_word(word):
    """Whether one reel of a laying is written so."""
    return word == NONE or (len(word) > 0 and all([sign in (REAL, IDLE) for sign in word]))


def reel_read(word):
    """One reel of a laying, of a word that is written so."""
    return () if word == NONE else tuple([sign == REAL for sign in word])


def read_laying(thing):
    """The laying that is written so, of anything."""
    words = words_read(thing)
    if not LEAST_WAYS <= len(words) <= MOST_WAYS or not all([is_reel_word(word) for word in words]):
        raise NoText("a laying is two to seven words of x and o, a blank between two")
    laying = tuple([reel_read(word) for word in words])
    if sum([len(on_reel) for on_reel in laying]) > MOST_WRITTEN:
        raise NoText("a laying that is read has at most three hundred places")
    return laying


def phase_read(word):
    """The pair that is written so, None where the word is none."""
    numbers = [number_read(part) for part in word.split(":")]
    return tuple(numbers) if len(numbers) == 2 and None not in numbers else None


def read_phases(thing):
    """The phases that are written so, of anything."""
    phases = [phase_read(word) for word in words_read(thing)]
    if len(phases) > MOST_PHASES or None in phases:
        raise NoText("phases are at most a hundred pairs OUT:MANY, a blank between two")
    return phases
