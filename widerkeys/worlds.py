"""Worlds: what the numbers are, where they stand, and who uses them."""

from widerkeys.errors import BadWorld
from widerkeys.forms import RULES, SIDES, is_ascending, is_name, is_tuple_of
from widerkeys.integers import is_between
from widerkeys.kinds import Kind

LEAST_NARROW = 16
MOST_PACE = 99
MOST_IN_TWO_EVENTS = 2

DEEDS = ("match", "order", "show")
READ_SIDES = ("narrow", "wide", "either")
HOWS = ("narrow", "wide", "both", "narrow first", "wide first")
IN_TWO_EVENTS = ("narrow first", "wide first")


class World:
    """A narrow and a wide kind, columns of numbers, and programs with their editions."""

    def __init__(self, narrow, wide, columns, programs):
        fits = _are_kinds(narrow, wide) and _are_columns(columns) and _are_programs(columns, programs)
        if not fits:
            raise BadWorld((narrow, wide, columns, programs))
        self.narrow = narrow
        self.wide = wide
        self.columns = columns
        self.programs = programs

    def __eq__(self, other):
        return (
            isinstance(other, World)
            and self.narrow == other.narrow
            and self.wide == other.wide
            and self.columns == other.columns
            and self.programs == other.programs
        )


def _are_kinds(narrow, wide):
    if not isinstance(narrow, Kind) or not isinstance(wide, Kind):
        return False
    return narrow < wide and narrow.size >= LEAST_NARROW


def _are_columns(columns):
    if not is_tuple_of(columns, 1, 3) or not all([is_name(column) for column in columns]):
        return False
    return is_ascending(columns)


def _are_programs(columns, programs):
    """Whether any value is the programs of a world with these columns."""
    if not is_tuple_of(programs, 1, 3):
        return False
    if not all([_is_program(columns, program) for program in programs]):
        return False
    # No name stands twice, so the names alone tell whether the pairs ascend.
    if not is_ascending([name for name, _ in programs]):
        return False
    return _many_in_two_events(programs) <= MOST_IN_TWO_EVENTS


def _is_program(columns, value):
    if not is_tuple_of(value, 2, 2):
        return False
    name, editions = value
    if not is_name(name) or not is_tuple_of(editions, 1, 3):
        return False
    if not all([_is_edition(columns, edition) for edition in editions]):
        return False
    return _is_first_edition(editions[0])


def _is_edition(columns, value):
    if not is_tuple_of(value, 3, 3):
        return False
    sight, reads, writes = value
    if sight not in SIDES or not _are_rows(columns, reads, 3) or not _are_rows(columns, writes, 5):
        return False
    if not all([_is_read(row) for row in reads]):
        return False
    sources = [row[0] for row in reads]
    return all([_is_write(sources, row) for row in writes])


def _are_rows(columns, value, many):
    """Whether any value is an ascending tuple of rows of so many words, each of another column."""
    if not isinstance(value, tuple):
        return False
    for row in value:
        if not is_tuple_of(row, many, many) or row[0] not in columns:
            return False
    return is_ascending([row[0] for row in value])


def _is_read(row):
    _, side, deeds = row
    if side not in READ_SIDES or not isinstance(deeds, tuple):
        return False
    return all([deed in DEEDS for deed in deeds]) and is_ascending(deeds)


def _is_write(sources, row):
    column, how, rule, source, pace = row
    if how not in HOWS or rule not in RULES or not is_between(pace, 0, MOST_PACE):
        return False
    return source == "" or (source in sources and source != column)


def _is_first_edition(edition):
    """Whether an edition does without wide sides, so that programs can begin with it."""
    _, reads, writes = edition
    if not all([row[1] in ("narrow", "either") for row in reads]):
        return False
    return all([row[1] == "narrow" for row in writes])


def _many_in_two_events(programs):
    many = 0
    for _, editions in programs:
        for _, _, writes in editions:
            many = many + len([row for row in writes if row[1] in IN_TWO_EVENTS])
    return many
