"""A desk: a yard that is led by lines."""

from widerkeys.errors import BadLine
from widerkeys.forms import is_name
from widerkeys.journals import read_journal
from widerkeys.lines import read_count, read_event

EMPTY = "-"
CELL_LINES = ("cell", "mark")


class Desk:
    """A yard, and the answers to the lines that are said to it."""

    def __init__(self, text):
        self.yard = read_journal(text)

    def say(self, line):
        """The answer to a line."""
        if not isinstance(line, str):
            raise BadLine(line)
        if line in PLAIN_LINES:
            answer = PLAIN_LINES[line]
            return answer(self.yard)
        words = line.split(" ")
        if len(words) == 3 and words[0] in CELL_LINES:
            return _answer_of_cell(self.yard, words, line)
        event = read_event(line)
        if event is None:
            raise BadLine(line)
        return _done(self.yard, event)


def _done(yard, event):
    """The answer to an event, with what is wrong with it."""
    told = _told(event[0], yard.do(event))
    wrongs = yard.wrongs
    # The last event is the wrong one only if no event was done behind it.
    if wrongs and wrongs[-1][0] == yard.many - 1:
        return f"{told} {wrongs[-1][1]}"
    return told


def _told(word, answer):
    if word == "read":
        return "empty" if answer is None else f"{answer}"
    if word in ("match", "order"):
        return "yes" if answer else "no"
    return "ok"


def _answer_of_cell(yard, words, line):
    """The answer to a line with a word, a column and a row."""
    row = read_count(words[2])
    if not is_name(words[1]) or row is None:
        raise BadLine(line)
    cell = (words[1], row)
    if words[0] == "mark":
        meant, _, narrow, wide, _, _ = yard.mark(cell)
        return f"{meant} {narrow} {wide}"
    return " ".join([EMPTY if number is None else f"{number}" for number in yard[cell]])


def _back(yard):
    yard.back()
    return "ok"


def _running(yard):
    return ", ".join([f"{program} {number}" for program, number in yard.moment[0]])


def _span(yard):
    first, last = yard.moment[4]
    return f"{first} {last}"


def _wrongs(yard):
    told = [f"{index} {word}" for index, word in yard.wrongs]
    return ", ".join(told) if told else EMPTY


PLAIN_LINES = {
    "back": _back,
    "running": _running,
    "span": _span,
    "wrongs": _wrongs,
}
