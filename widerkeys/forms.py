"""Forms: which words steps and events begin with, and what stands behind each word."""

from widerkeys.integers import is_integer

SIDES = ("narrow", "wide")
RULES = ("cut", "empty", "refuse")
MANNERS = ("empty", "anew")
MOST_LETTERS = 8

STEP_FORMS = {
    "add": ("column",),
    "drop": ("column", "side"),
    "up": ("column",),
    "no up": ("column",),
    "down": ("column", "rule"),
    "no down": ("column",),
    "fill": ("column", "manner"),
    "fill back": ("column", "manner", "rule"),
    "release": ("program",),
    "withdraw": ("program",),
    "grow": ("number",),
    "purge": ("number",),
}

EVENT_FORMS = {
    "there": ("column", "row", "number"),
    "begin": ("step",),
    "end": ("step",),
    "set": ("program", "edition", "column", "row", "number"),
    "copy": ("program", "edition", "column", "row", "row"),
    "come": ("program", "edition", "column", "row", "number"),
    "visit": ("row",),
    "read": ("program", "edition", "column", "row"),
    "match": ("program", "edition", "column", "row", "column", "row"),
    "order": ("program", "edition", "column", "row", "row"),
}


def is_name(value):
    """Whether any value is a string of 1 to 8 letters a to z."""
    if not isinstance(value, str) or len(value) > MOST_LETTERS:
        return False
    return value.isascii() and value.isalpha() and value.islower()


def is_tuple_of(value, least, most):
    """Whether any value is a tuple of at least and at most so many members."""
    return isinstance(value, tuple) and least <= len(value) <= most


def is_ascending(items):
    """Whether each member of a tuple, all of one sort, is less than the next one."""
    return all([one < other for one, other in zip(items, items[1:])])


def step_form(value):
    """What has to stand behind the first word of any value; None if no step begins so."""
    return STEP_FORMS.get(_first_word(value))


def event_form(value):
    """What has to stand behind the first word of any value; None if no event begins so."""
    return EVENT_FORMS.get(_first_word(value))


def is_plain_part(part, item):
    """Whether any value can stand for a part that is no name and no step."""
    if part == "side":
        return item in SIDES
    if part == "rule":
        return item in RULES
    if part == "manner":
        return item in MANNERS
    if part == "number":
        return is_integer(item)
    return is_count(item)


def is_count(value):
    """Whether any value is an integer from 0, as rows and editions are told by."""
    return is_integer(value) and value >= 0


def compares_itself(event):
    """Whether an event of a full form compares a cell with this very cell."""
    if event[0] == "match":
        return event[3:5] == event[5:7]
    return event[0] == "order" and event[4] == event[5]


def _first_word(value):
    """The string that a tuple begins with; the empty one for any other value."""
    if not isinstance(value, tuple) or not value or not isinstance(value[0], str):
        return ""
    return value[0]
