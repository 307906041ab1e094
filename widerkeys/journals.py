"""Journals: the texts of yards."""

from widerkeys.drafts import drafted
from widerkeys.errors import BadEvent, BadText, NotNow
from widerkeys.integers import read_integer
from widerkeys.lines import read_event, read_rows
from widerkeys.yard import Yard


def read_journal(text):
    """The yard of which this is the journal."""
    if not isinstance(text, str):
        raise BadText(None)
    rows = text.split("\n")
    draft, at = drafted(rows)
    span = _read_span(rows, at)
    events = read_rows(rows, at + 1, read_event)
    yard = Yard(draft.made(), span)
    for index, event in enumerate(events):
        try:
            yard.do(event)
        except (BadEvent, NotNow):
            raise BadText(at + 1 + index) from None
    return yard


def _read_span(rows, at):
    """The two numbers of the row of the span, which is wanted at this place."""
    if at == len(rows):
        raise BadText(at)
    words = rows[at].split(" ")
    numbers = [read_integer(word) for word in words[1:]]
    if len(numbers) != 2 or None in numbers:
        raise BadText(at)
    return tuple(numbers)
