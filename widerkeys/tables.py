"""Tables: which values are tables of a moment, and what comes of them."""

from widerkeys.carrying import carried, stepped
from widerkeys.editions import late_side
from widerkeys.faults import fault_of
from widerkeys.forms import is_ascending, is_tuple_of
from widerkeys.growths import grown, root
from widerkeys.marking import is_less, kin_of, numbers_of
from widerkeys.marks import is_mark
from widerkeys.scenes import Scene


def is_table(scene, value):
    """Whether any value is a table of a moment."""
    columns = scene.world.columns
    if not is_tuple_of(value, len(columns), len(columns)):
        return False
    return all([_are_marks(scene, column, marks) for column, marks in zip(columns, value)])


def is_covered(table, other):
    """Whether each mark of a table is within one of the other table, column by column."""
    for marks, others in zip(table, other):
        kin = {}
        for mark in others:
            kin.setdefault(kin_of(mark), []).append(mark)
        for mark in marks:
            if not any([is_less(mark, one) for one in kin.get(kin_of(mark), [])]):
                return False
    return True


def growth_of(scene, tables):
    """The growth of a moment that begins with the marks of some tables."""
    begins = []
    for table in tables:
        for column, marks in zip(scene.world.columns, table):
            for told in marks:
                begins.append(root(column, told))
    return grown(scene, 0, begins)


def closed_table(scene, *tables):
    """The table of the greatest marks of the least closed one that has the marks of these.

    None if something is wrong with it.
    """
    growth = growth_of(scene, tables)
    return growth.greatest() if fault_of(growth) is None else None


def carried_table(scene, change, table):
    """The marks with which a moment begins, of the table of the moment ahead of it."""
    found = []
    for column, marks in zip(scene.world.columns, table):
        told = [carried(scene, change, column, mark) for mark in marks]
        found.append(tuple([mark for mark in told if mark is not None]))
    return tuple(found)


def behind_step(setup, table, step):
    """(setup, table) behind a step, from a table of the moment ahead of it.

    None if the step is not possible, or something is wrong in one of its moments.
    """
    moments = stepped(setup, step)
    if moments is None:
        return None
    for change, after in moments:
        setup = after
        scene = Scene(setup.world, setup.what_holds())
        table = closed_table(scene, carried_table(scene, change, table))
        if table is None:
            return None
    return setup, table


def _are_marks(scene, column, value):
    """Whether any value is an ascending tuple of marks that a column can have in a moment."""
    if not isinstance(value, tuple) or not all([_can_be(scene, column, mark) for mark in value]):
        return False
    return is_ascending(value)


def _can_be(scene, column, value):
    """Whether any value is a mark that a column can have in a moment."""
    if not is_mark(scene.world, value):
        return False
    meant, top, narrow, wide, late, visit = value
    visits = ("ahead", "seen") if scene.is_filled(column) else ("",)
    there = scene.spots[column].sides
    least, _ = numbers_of(scene.world, scene.span[0], meant, top)
    if visit not in visits or not least <= top <= scene.span[1]:
        return False
    if (there == "narrow" and wide != "none") or (there == "wide" and narrow != "none"):
        return False
    return all([_can_be_late(scene, column, one) for one in late])


def _can_be_late(scene, column, late):
    program, number, _ = late
    for runner, edition, _, row in scene.writers[column]:
        if (runner, edition) == (program, number):
            return late_side(row[1]) != ""
    return False
