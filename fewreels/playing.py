"""Stage 9: reels of rows played by phases."""

from fewreels.errors import NoPhase
from fewreels.levels import check_level, check_ways, first_counts, next_counts
from fewreels.phases import is_phase
from fewreels.rows import merged_row


def copied_row(row):
    """The row as a list of its own, None where it is idle."""
    return None if row is None else list(row)


def things_in(rows):
    """How many things all rows have that aren't idle."""
    return sum([len(row) for row in rows if row is not None])


def merged_or_idle(rows):
    """One row of all things, None where all rows are idle."""
    real = [row for row in rows if row is not None]
    return merged_row(real) if real else None


def taken_at(taken, at):
    """The rows of one merging: of each reel the row at this place of those taken, where it has one."""
    return [rows[at] for rows in taken if at < len(rows)]


def phase_played(reels, phase):
    """The reels behind a phase, and how many things were read of each."""
    out, many = phase
    # The reel written on is empty, so nothing is taken of it here.
    taken = [reel[:many] for reel in reels]
    behind = [reel[many:] for reel in reels]
    behind[out] = [merged_or_idle(taken_at(taken, at)) for at in range(many)]
    return (behind, [things_in(rows) for rows in taken])


def play_rows(reels, phases):
    """The reels behind all phases, and how many things each phase read of each reel."""
    behind = [[copied_row(row) for row in reel] for reel in reels]
    read = []
    for at, phase in enumerate(phases):
        if not is_phase([len(reel) for reel in behind], phase):
            raise NoPhase(at)
        behind, of_each = phase_played(behind, phase)
        read.append(of_each)
    return (behind, read)


def level_phases(p, n):
    """The phases of a level's play, each of the least count onto the reel that got empty last."""
    check_ways(p)
    check_level(n)
    greatest = []
    counts = first_counts(p)
    for level in range(n):
        greatest.append(counts[0])
        counts = next_counts(counts)
    # A level's least count is the greatest of the level ahead; the reel ahead of the one written on gets empty.
    return [((p - at) % (p + 1), many) for at, many in enumerate(greatest[::-1])]


def laid_reels(laying, rows):
    """The reels, the last one empty, with the rows in order at the laying's real places, None at the idle ones."""
    reels = []
    laid = 0
    for on_reel in laying:
        reel = []
        for real in on_reel:
            reel.append(list(rows[laid]) if real else None)
            laid += 1 if real else 0
        reels.append(reel)
    return reels + [[]]
