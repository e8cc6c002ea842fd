"""Stage 12: rows of told lengths joined, up to p at once, on reels or not."""

from fewreels.levels import check_ways
from fewreels.wholes import is_listed, is_tuple_of, is_whole


def first_many(p, rows):
    """How many the first joining of the least log takes, so that all others take p."""
    return (rows - 2) % (p - 1) + 2


def least_join(p, lengths):
    """The least reading of any log, and the least log."""
    check_ways(p)
    there = sorted([(length, number) for number, length in enumerate(lengths)])
    many = first_many(p, len(lengths))
    reading = 0
    log = []
    while len(there) > 1:
        taken = there[:many]
        made = sum([length for length, number in taken])
        there = sorted(there[many:] + [(made, len(lengths) + len(log))])
        reading += made
        log.append(tuple(sorted([number for length, number in taken])))
        many = p
    return (reading, log)


def is_joining(there, joining, many):
    """Whether it is a rising tuple of so many numbers that are there."""
    if not is_tuple_of(joining, many) or not all([is_whole(number) and number in there for number in joining]):
        return False
    return all([ahead < behind for ahead, behind in zip(joining, joining[1:])])


def takes_least(there, joining):
    """Whether nothing that is there is shorter than what the joining takes in its place."""
    return sorted([there[number] for number in joining]) == sorted(there.values())[:len(joining)]


def reading_of_least(p, lengths, log):
    """The reading of a log whose joinings take least ones as told, None where it is none."""
    there = {number: length for number, length in enumerate(lengths)}
    many = first_many(p, len(lengths))
    reading = 0
    for at, joining in enumerate(log):
        if not is_joining(there, joining, many) or not takes_least(there, joining):
            return None
        made = sum([there[number] for number in joining])
        there = {number: length for number, length in there.items() if number not in joining}
        there[len(lengths) + at] = made
        reading += made
        many = p
    return reading if len(there) == 1 else None


def join_right(p, lengths, told):
    """Whether it is the least reading, with a log whose each joining takes least ones, of several any."""
    check_ways(p)
    if not is_tuple_of(told, 2):
        return False
    reading, log = told
    return is_whole(reading) and is_listed(log) and reading == reading_of_least(p, lengths, log)


def join_numbers(p, rows, log):
    """How often each of so many rows is read by the log."""
    check_ways(p)
    times = [0] * (rows + len(log))
    for at in reversed(range(len(log))):
        for number in log[at]:
            times[number] = times[rows + at] + 1
    return times[:rows]


def parts_of(there, p):
    """What is there in parts of p, the last one being of what is left."""
    return [there[start:start + p] for start in range(0, len(there), p)]


def numbers_join(p, numbers):
    """A log by which no row is read more often than its number, None where the sum of all rows is above 1."""
    check_ways(p)
    rows = len(numbers)
    if any([number < 0 for number in numbers]):
        return None
    # A log reads each of its rows fewer times than there are rows, so a greater number lets no more.
    most = [min(number, rows - 1) for number in numbers]
    log = []
    there = []
    for times in range(rows - 1, 0, -1):
        parts = parts_of(there + [row for row in range(rows) if most[row] == times], p)
        there = []
        for part in parts:
            if len(part) > 1:
                log.append(tuple(sorted(part)))
            there.append(rows + len(log) - 1 if len(part) > 1 else part[0])
    # Each p of one number made one of a number less, rounded up, so what is left is the sum, rounded up.
    left = there + [row for row in range(rows) if most[row] == 0]
    return log if len(left) <= 1 else None
