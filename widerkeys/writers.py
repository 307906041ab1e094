"""Writers: which editions have to write both sides."""

from itertools import combinations

from widerkeys.editions import editions_of, row_of
from widerkeys.errors import BadRows, BadTask
from widerkeys.forms import is_ascending, is_count, is_tuple_of
from widerkeys.orders import cheapest
from widerkeys.tasks import is_task
from widerkeys.worlds import World

MOST_ROWS = 4
DOUBLE_HOWS = ("both", "narrow first", "wide first")


def fewest(task, rows):
    """(kept, order, cost): the fewest rows that have to write both sides; None if all do not suffice."""
    if not is_task(task):
        raise BadTask(task)
    if not _are_rows(task[0], rows):
        raise BadRows(rows)
    doubles = list(rows)
    for many in range(len(doubles) + 1):
        for kept in combinations(doubles, many):
            turned = [row for row in doubles if row not in kept]
            answer = cheapest((_turned_world(task[0], turned), *task[1:]))
            if answer[0] == "order":
                return kept, answer[1], answer[2]
    return None


def _are_rows(world, value):
    """Whether any value is an ascending tuple of (program, edition, column) of rows that write both sides."""
    if not is_tuple_of(value, 1, MOST_ROWS) or not all([_is_double(world, row) for row in value]):
        return False
    return is_ascending(value)


def _is_double(world, value):
    if not is_tuple_of(value, 3, 3):
        return False
    program, number, column = value
    editions = editions_of(world, program)
    if not is_count(number) or number >= len(editions):
        return False
    writing = row_of(editions[number][2], column)
    return writing is not None and writing[1] in DOUBLE_HOWS


def _turned_world(world, turned):
    """The world in which each of these rows writes the side of its edition's sight alone."""
    programs = []
    for program, editions in world.programs:
        found = [_turned_edition(edition, program, number, turned) for number, edition in enumerate(editions)]
        programs.append((program, tuple(found)))
    return World(world.narrow, world.wide, world.columns, tuple(programs))


def _turned_edition(edition, program, number, turned):
    sight, reads, writes = edition
    rows = []
    for row in writes:
        is_turned = (program, number, row[0]) in turned
        rows.append((row[0], sight, *row[2:]) if is_turned else row)
    return sight, reads, tuple(rows)
