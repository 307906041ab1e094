"""Steps and events as rows of a text, by their forms alone.

A row is the words of a step, or of an event, with blanks between. A step that
stands in an event is written as its own words.
"""

from widerkeys.errors import BadText
from widerkeys.forms import (
    EVENT_FORMS,
    STEP_FORMS,
    compares_itself,
    event_form,
    is_count,
    is_name,
    is_plain_part,
    step_form,
)
from widerkeys.integers import read_integer

NAMES = ("column", "program")
COUNTS = ("edition", "row")
GREATEST_COUNT = 999999999


def is_step_form(value):
    """Whether any value has the form of a step, with any names in it."""
    form = step_form(value)
    return form is not None and _are_parts(form, value[1:])


def is_event_form(value):
    """Whether any value has the form of an event, with any names and short numbers of rows in it."""
    form = event_form(value)
    if form is None or len(value) != len(form) + 1:
        return False
    if form == ("step",):
        return is_step_form(value[1])
    return _are_parts(form, value[1:]) and not compares_itself(value)


def row_of_step(step):
    return " ".join([f"{word}" for word in step])


def row_of_event(event):
    if event[0] in ("begin", "end"):
        return f"{event[0]} {row_of_step(event[1])}"
    return row_of_step(event)


def read_step(row):
    """The step of which this is the row; None if it is that of none."""
    return _read_as(dict(STEP_FORMS), row.split(" "))


def read_event(row):
    """The event of which this is the row; None if it is that of none."""
    word, _, rest = row.partition(" ")
    if word in ("begin", "end"):
        step = read_step(rest)
        return None if step is None else (word, step)
    event = _read_as(dict(EVENT_FORMS), row.split(" "))
    return None if event is None or compares_itself(event) else event


def read_rows(rows, start, read):
    """What each row from one on is read as; the number of the first one that is read as None is raised."""
    found = []
    for index in range(start, len(rows)):
        member = read(rows[index])
        if member is None:
            raise BadText(index)
        found.append(member)
    return found


def read_count(word):
    """The number of a row, or of an edition, that a word shows; None if it shows none."""
    number = read_integer(word)
    return number if _is_count(number) else None


def _is_count(value):
    return is_count(value) and value <= GREATEST_COUNT


def _are_parts(form, items):
    if len(items) != len(form):
        return False
    return all([_is_part(part, item) for part, item in zip(form, items)])


def _is_part(part, item):
    if part in NAMES:
        return is_name(item)
    if part in COUNTS:
        return _is_count(item)
    return is_plain_part(part, item)


def _read_as(forms, words):
    """The tuple of one of these forms that has these words, None if there is none."""
    for name in forms:
        named = name.split(" ")
        parts = words[len(named) :]
        # A name may be a word of a form, too. Then it is another number of words that tells.
        if words[: len(named)] == named and len(parts) == len(forms[name]):
            return _read_parts(name, forms[name], parts)
    return None


def _read_parts(name, form, words):
    items = [name]
    for part, word in zip(form, words):
        item = word
        if part in COUNTS or part == "number":
            item = read_integer(word)
        if not _is_part(part, item):
            return None
        items.append(item)
    return tuple(items)
