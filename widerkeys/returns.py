"""Ways back: which steps lead back to the first editions from where a plan has come to."""

from widerkeys.errors import BadBacks, Unsafe
from widerkeys.forms import is_tuple_of
from widerkeys.steps import is_step, moments
from widerkeys.tables import behind_step
from widerkeys.tasks import mirrors_once
from widerkeys.walks import Walk

MOST_BACKS = 4
BACK_STEPS = ("up", "no up", "down", "no down", "fill back", "withdraw")


def ways_back(world, span, plan, backs):
    """For each number of steps done the least one of the shortest rows that lead back; None if none does."""
    moments(world, span, plan)
    if not _are_backs(world, backs):
        raise BadBacks(backs)
    walk = Walk(world, span, plan)
    if walk.fault is not None:
        raise Unsafe(walk.wrong_run())
    return tuple([_way_back(setup, table, backs) for setup, table in walk.ends()])


def no_return(world, span, plan, backs):
    """The least number of steps done from which on there is no way back; None if there is one from the end."""
    ways = ways_back(world, span, plan, backs)
    if ways[-1] is not None:
        return None
    done = len(ways) - 1
    # From the beginning there is always a way: that of no steps.
    while ways[done - 1] is None:
        done = done - 1
    return done


def _are_backs(world, value):
    """Whether any value is a tuple of steps that can lead back."""
    if not is_tuple_of(value, 0, MOST_BACKS) or not all([is_step(world, step) for step in value]):
        return False
    return all([step[0] in BACK_STEPS for step in value]) and mirrors_once(value)


def _way_back(setup, table, backs):
    """The least one of the shortest rows of places of backs that lead back from here, or None."""
    # Rows of one length, ascending, each with the setup and the table behind its steps.
    rows = [((), setup, table)]
    while rows:
        for row, after, _ in rows:
            if _is_back(after):
                return row
        rows = _longer(rows, backs)
    return None


def _longer(rows, backs):
    """The rows that are longer by one place."""
    found = []
    for row, setup, table in rows:
        for place, step in enumerate(backs):
            after = None if place in row else behind_step(setup, table, step)
            if after is not None:
                found.append(((*row, place), after[0], after[1]))
    return found


def _is_back(setup):
    """Whether all programs run their first edition."""
    return all([number == 0 for number in setup.editions.values()])
