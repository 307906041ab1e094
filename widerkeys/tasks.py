"""Tasks: steps that are all to be done, and what they cost."""

from widerkeys.editions import edition_of
from widerkeys.forms import is_tuple_of
from widerkeys.integers import is_between
from widerkeys.spans import is_fit
from widerkeys.steps import is_step
from widerkeys.worlds import World
from widerkeys.writing import spot_of

MOST_STEPS = 6
MOST_DURATION = 99
MIRROR_STEPS = ("up", "no up", "down", "no down")


def is_task(value):
    """Whether any value is (world, span, steps, durations)."""
    if not is_tuple_of(value, 4, 4) or not isinstance(value[0], World):
        return False
    world, span, steps, durations = value
    if not is_fit(world, span) or not is_tuple_of(steps, 1, MOST_STEPS):
        return False
    if not all([is_step(world, step) for step in steps]) or not mirrors_once(steps):
        return False
    if not is_tuple_of(durations, len(steps), len(steps)):
        return False
    return all([is_between(duration, 0, MOST_DURATION) for duration in durations])


def mirrors_once(steps):
    """Whether no mirror of a column is put on, or off, by several of the steps."""
    mirrors = [step[:2] for step in steps if step[0] in MIRROR_STEPS]
    return all([mirrors.count(mirror) == 1 for mirror in mirrors])


def cost_of(world, holds, duration):
    """What a step of this duration costs if this holds in its moment."""
    total = 0
    for program, number in holds[0]:
        _, _, writes = edition_of(world, program, number)
        for column, how, _, _, pace in writes:
            if _writes_both(how, spot_of(world, holds, column)):
                total = total + pace
    return duration * total


def _writes_both(how, spot):
    """Whether both sides are written where a column stands so."""
    if how == "narrow":
        return spot.up
    if how == "wide":
        return spot.down != ""
    return True
