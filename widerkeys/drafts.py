"""Drafts: worlds as they are read row by row.

The form of the rows and their sequence count here. Whether a world is made of
them is told at the end.
"""

from widerkeys.errors import BadText
from widerkeys.forms import RULES, SIDES, is_name
from widerkeys.integers import read_integer
from widerkeys.kinds import Kind
from widerkeys.worlds import DEEDS, HOWS, READ_SIDES, World

NO_SOURCE = "-"
KIND_ROWS = ("narrow", "wide")


class Draft:
    """The kinds, columns and programs that have been read."""

    def __init__(self):
        self.kinds = []
        self.columns = []
        # (name, editions) of each program; an edition is (sight, reads, writes), with lists.
        self.programs = []

    def takes(self, words):
        """Takes the words of a row; whether they are one that can stand here."""
        if len(self.kinds) < len(KIND_ROWS):
            return _take_kind(self, words)
        take = TAKES.get(words[0], None)
        return take is not None and take(self, words)

    def is_whole(self):
        return len(self.kinds) == len(KIND_ROWS)

    def current(self):
        """The edition that was begun last; None if none was since the last program."""
        if not self.programs or not self.programs[-1][1]:
            return None
        return self.programs[-1][1][-1]

    def made(self):
        """The world that is made of it."""
        programs = []
        for name, editions in self.programs:
            rows = [(sight, tuple(reads), tuple(writes)) for sight, reads, writes in editions]
            programs.append((name, tuple(rows)))
        return World(self.kinds[0], self.kinds[1], tuple(self.columns), tuple(programs))


def drafted(rows):
    """(draft, many): what the first rows of a text are a world of, and how many these are.

    It ends ahead of the row of a span, or behind all rows.
    """
    draft = Draft()
    for index, row in enumerate(rows):
        words = row.split(" ")
        if draft.is_whole() and words[0] == "span":
            return draft, index
        if not draft.takes(words):
            raise BadText(index)
    if not draft.is_whole():
        raise BadText(len(rows))
    return draft, len(rows)


def _take_kind(draft, words):
    if len(words) != 2 or words[0] != KIND_ROWS[len(draft.kinds)]:
        return False
    kind = _kind_of(words[1])
    if kind is not None:
        draft.kinds.append(kind)
    return kind is not None


def _kind_of(word):
    try:
        return Kind.read(word)
    except BadText:
        return None


def _take_column(draft, words):
    if len(words) != 2 or not is_name(words[1]) or draft.programs:
        return False
    draft.columns.append(words[1])
    return True


def _take_program(draft, words):
    if len(words) != 2 or not is_name(words[1]):
        return False
    draft.programs.append((words[1], []))
    return True


def _take_edition(draft, words):
    if len(words) != 2 or words[1] not in SIDES or not draft.programs:
        return False
    draft.programs[-1][1].append((words[1], [], []))
    return True


def _take_read(draft, words):
    edition = draft.current()
    if len(words) < 3 or edition is None or edition[2]:
        return False
    _, column, side, *deeds = words
    if not is_name(column) or side not in READ_SIDES or not all([deed in DEEDS for deed in deeds]):
        return False
    edition[1].append((column, side, tuple(deeds)))
    return True


def _take_write(draft, words):
    edition = draft.current()
    if len(words) != 6 or edition is None:
        return False
    _, column, way, rule, source, pace = words
    # Of a way of writing the text has one word.
    how = way.replace("-", " ")
    if not is_name(column) or how not in HOWS or rule not in RULES:
        return False
    if source != NO_SOURCE and not is_name(source):
        return False
    if read_integer(pace) is None:
        return False
    edition[2].append((column, how, rule, "" if source == NO_SOURCE else source, read_integer(pace)))
    return True


TAKES = {
    "column": _take_column,
    "program": _take_program,
    "edition": _take_edition,
    "read": _take_read,
    "write": _take_write,
}
