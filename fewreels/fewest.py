"""Stage 4: the fewest phases, a plan of so many, and what bars one fewer."""

from fewreels.errors import NoPhase
from fewreels.levels import first_counts, next_counts
from fewreels.phases import check_standing, counts_behind, plan_done
from fewreels.wholes import is_listed, is_place, is_tuple_of, is_whole


def ranked(standing):
    """The counts, the greatest first."""
    return sorted(standing, reverse=True)


def covers(level, counts):
    """Whether a level's counts are nowhere less than these, the greatest first."""
    # The empty reel comes last and has no count in the level, so that zip leaves it out.
    return all([count <= most for count, most in zip(counts, level)])


def levels_to(standing):
    """The counts of all levels up to the first that covers the standing."""
    levels = [first_counts(len(standing) - 1)]
    while not covers(levels[-1], ranked(standing)):
        levels.append(next_counts(levels[-1]))
    return levels


def plan_by(levels, standing):
    """A plan of one phase for each of these levels, the last of them first."""
    counts = standing
    plan = []
    for level in reversed(levels):
        phase = (counts.index(0), min(level[0], max(counts)))
        plan.append(phase)
        counts = counts_behind(counts, phase)
    return plan


def is_bar(level, standing, bar):
    """Whether the standing has more than the level at this place, the greatest first."""
    return is_place(bar, len(level)) and ranked(standing)[bar] > level[bar]


def first_bar(level, standing):
    """The first place at which the standing has more than the level."""
    return [place for place in range(len(level)) if is_bar(level, standing, place)][0]


def fewest_phases(standing):
    """The fewest phases that do, a plan of so many, and a place that bars one fewer."""
    check_standing(standing)
    fewer = levels_to(standing)[:-1]
    bar = first_bar(fewer[-1], standing) if fewer else None
    return (len(fewer), plan_by(fewer, standing), bar)


def is_plan(standing, plan):
    """Whether the phases come to one row."""
    try:
        plan_done(standing, plan)
    except NoPhase:
        return False
    return True


def phases_right(standing, told):
    """Whether these are the fewest phases, a plan of so many, and a place that bars one fewer."""
    check_standing(standing)
    if not is_tuple_of(told, 3):
        return False
    phases, plan, bar = told
    fewer = levels_to(standing)[:-1]
    if not is_whole(phases) or phases != len(fewer):
        return False
    if not is_listed(plan) or len(plan) != phases or not is_plan(standing, plan):
        return False
    return is_bar(fewer[-1], standing, bar) if fewer else bar is None
