"""Editions of programs: their rows of reads and of writes."""


def editions_of(world, program):
    """The editions of any value that may be the name of a program; () if it is none."""
    for name, editions in world.programs:
        if name == program:
            return editions
    return ()


def edition_of(world, program, number):
    """The edition of this number of a program of the world."""
    return editions_of(world, program)[number]


def row_of(rows, column):
    """The row of reads, or of writes, that an edition has for a column; None if it has none."""
    for row in rows:
        if row[0] == column:
            return row
    return None


def late_side(how):
    """The side that a writing in two events comes to later; "" for a writing in one event."""
    if how == "narrow first":
        return "wide"
    if how == "wide first":
        return "narrow"
    return ""


def needs_side(edition, column, side):
    """Whether an edition reads or writes this side of a column, and cannot do without it."""
    _, reads, writes = edition
    reading = row_of(reads, column)
    if reading is not None and reading[1] == side:
        return True
    writing = row_of(writes, column)
    # Whatever is not of one side alone writes both, in one event or in two.
    return writing is not None and writing[1] != other_side(side)


def other_side(side):
    return "wide" if side == "narrow" else "narrow"
