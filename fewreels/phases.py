"""Stage 4: what stands on the reels, and what phases make of it."""

from fewreels.errors import NoPhase, NoStanding
from fewreels.levels import LEAST_WAYS, MOST_ROWS, MOST_WAYS
from fewreels.wholes import is_place, is_tuple_of, is_whole


def is_standing(thing):
    """Whether it is a standing, of anything."""
    if not isinstance(thing, tuple) or not LEAST_WAYS < len(thing) <= MOST_WAYS + 1:
        return False
    if not all([is_whole(count) and 0 <= count <= MOST_ROWS for count in thing]):
        return False
    return min(thing) == 0 and max(thing) > 0


def check_standing(standing):
    """Refuse what is no standing, of anything."""
    if not is_standing(standing):
        raise NoStanding("a standing is a tuple of three to eight counts, one of them 0 and one above 0")


def is_phase(counts, phase):
    """Whether it is a phase where the reels have these counts."""
    if not is_tuple_of(phase, 2):
        return False
    out, many = phase
    if not is_place(out, len(counts)) or counts[out] > 0:
        return False
    return is_whole(many) and 1 <= many <= max(counts)


def counts_behind(counts, phase):
    """The counts behind a phase."""
    out, many = phase
    behind = [max(count - many, 0) for count in counts]
    behind[out] = many
    return tuple(behind)


def phase_done(standing, phase):
    """The counts behind a phase, refused where it is none there."""
    check_standing(standing)
    if not is_phase(standing, phase):
        raise NoPhase(0)
    return counts_behind(standing, phase)


def plan_done(standing, plan):
    """The counts behind all phases, refused where these are no plan."""
    check_standing(standing)
    # What is left behind a phase may have no empty reel, so it needn't be a standing.
    counts = standing
    for at, phase in enumerate(plan):
        if not is_phase(counts, phase):
            raise NoPhase(at)
        counts = counts_behind(counts, phase)
    if sum(counts) > 1:
        raise NoPhase(len(plan))
    return counts
