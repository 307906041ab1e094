"""Judging: whether anything can go wrong in a plan, and what shows it."""

from widerkeys.carrying import changes_of
from widerkeys.errors import BadPlace, Unsafe
from widerkeys.forms import is_tuple_of
from widerkeys.integers import is_between
from widerkeys.limits import furthest_last
from widerkeys.marking import first_table
from widerkeys.scenes import Scene
from widerkeys.sorting import ascending
from widerkeys.steps import moments
from widerkeys.tables import carried_table, closed_table, is_covered, is_table
from widerkeys.walks import Walk


def judged(world, span, plan):
    """("safe", tables), a table for each moment, or ("wrong", run)."""
    moments(world, span, plan)
    walk = Walk(world, span, plan)
    if walk.fault is not None:
        return "wrong", walk.wrong_run()
    return "safe", tuple([growth.greatest() for growth in walk.growths])


def shows_safe(world, span, plan, value):
    """Whether any value is a tuple of closed tables of the moments, with which nothing is wrong."""
    told = moments(world, span, plan)
    if not is_tuple_of(value, len(told), len(told)):
        return False
    scenes = [Scene(world, holds) for holds in told]
    begins = first_table(world, span)
    changes = changes_of(plan)
    for at, table in enumerate(value):
        if not is_table(scenes[at], table):
            return False
        if at > 0:
            begins = carried_table(scenes[at], changes[at - 1], value[at - 1])
        closed = closed_table(scenes[at], table, begins)
        if closed is None or not is_covered(closed, table):
            return False
    return True


def readings(world, span, plan):
    """How each column is read by each edition that runs, in each moment of a safe plan."""
    moments(world, span, plan)
    walk = Walk(world, span, plan)
    if walk.fault is not None:
        raise Unsafe(walk.wrong_run())
    return tuple([_readings_in(growth.scene, growth.greatest()) for growth in walk.growths])


def furthest(world, span, plan, index):
    """The greatest number that the grow at an index of a plan can lead to safely; None if none can."""
    moments(world, span, plan)
    if not is_between(index, 0, len(plan) - 1) or plan[index][0] != "grow":
        raise BadPlace(index)
    return furthest_last(world, span, plan, index)


def _readings_in(scene, table):
    """((program, edition, column), smalls, greats) for each row of reads in a moment with a table."""
    found = {}
    for column, marks in zip(scene.world.columns, table):
        for program, number, _, _ in scene.readers[column]:
            found[(program, number, column)] = {"small": {}, "great": {}}
        for told in marks:
            for program, number, _, reading in scene.readings_of(column, told):
                found[(program, number, column)][told[0]][reading] = True
    rows = []
    for key in found:
        smalls, greats = [ascending(list(found[key][meant])) for meant in ("small", "great")]
        rows.append((key, smalls, greats))
    return ascending(rows)
