"""Scenes: one moment each, with what the editions that run do in it."""

from widerkeys.editions import edition_of, late_side, row_of
from widerkeys.marking import Words, reading_of
from widerkeys.writing import spot_of, written

# Where an edition has its rows of reads, and of writes.
READS = 1
WRITES = 2


class Scene:
    """What holds in a moment, arranged by columns."""

    def __init__(self, world, holds):
        running, _, _, fill, span = holds
        self.world = world
        self.holds = holds
        self.fill = fill
        self.span = span
        self.spots = {column: spot_of(world, holds, column) for column in world.columns}
        # (program, number, sight, row) for each row of writes, and of reads, of each column.
        self.writers = {column: _rows_of(world, running, column, WRITES) for column in world.columns}
        self.readers = {column: _rows_of(world, running, column, READS) for column in world.columns}
        self.narrowings = {"small": Words("small"), "great": Words("great")}

    def is_filled(self, column):
        return self.fill != () and self.fill[1] == column

    def new_visit(self, column):
        """The visit of a cell that comes up in this moment."""
        return "seen" if self.is_filled(column) else ""

    def put(self, column, stands, meant, side, word, rule):
        """(narrow, wide) behind the writing of a word; None if it is refused."""
        return written(self.spots[column], stands, side, word, rule, self.narrowings[meant])

    def behind_come(self, column, told, late):
        """(narrow, wide) of a mark behind the coming of a late one; None if it is refused."""
        program, number, word = late
        _, _, writes = edition_of(self.world, program, number)
        _, how, rule, _, _ = row_of(writes, column)
        return self.put(column, told[2:4], told[0], late_side(how), word, rule)

    def behind_visit(self, column, told):
        """(narrow, wide) of a mark behind a visit of the fill; None if it is refused."""
        side, rule, origin, goal = "wide", "", told[2], told[3]
        if self.fill[0] == "fill back":
            side, rule, origin, goal = "narrow", self.fill[3], told[3], told[2]
        if origin == "none" or (self.fill[2] != "anew" and goal != "none"):
            return told[2:4]
        return self.put(column, told[2:4], told[0], side, origin, rule)

    def readings_of(self, column, told):
        """(program, number, row, reading) of a mark for each row of reads of its column."""
        return [
            (program, number, row, reading_of(sight, row[1], told))
            for program, number, sight, row in self.readers[column]
        ]


def _rows_of(world, running, column, at):
    found = []
    for program, number in running:
        edition = edition_of(world, program, number)
        row = row_of(edition[at], column)
        if row is not None:
            found.append((program, number, edition[0], row))
    return found
