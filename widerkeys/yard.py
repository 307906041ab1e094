"""A yard: a store in which runs are played."""

from widerkeys.errors import BadEvent, BadSpan, NoCell, NothingToUndo, NotNow
from widerkeys.events import is_event
from widerkeys.forms import is_count, is_tuple_of
from widerkeys.lines import row_of_event
from widerkeys.plays import played
from widerkeys.sorting import ascending, in_order
from widerkeys.spans import is_fit
from widerkeys.store import Store
from widerkeys.texts import show_world
from widerkeys.trials import Trial
from widerkeys.views import mark_of


class State:
    """How a yard is behind an event. It is never changed, so yards and trials may share it."""

    def __init__(self, store, before, event, word):
        self.store = store
        # The state ahead of the event, None at the beginning.
        self.before = before
        self.event = event
        # What is wrong with the event, "" if nothing is.
        self.word = word
        # How many events were done.
        self.depth = 0 if before is None else before.depth + 1


class Yard:
    """A store in which events are done and taken back, whatever steps they take."""

    def __init__(self, world, span):
        if not is_fit(world, span):
            raise BadSpan(span)
        self.world = world
        self.span = span
        self.state = State(Store(world, span), None, (), "")

    def do(self, event):
        """Does an event, and tells what an edition reads, or takes two cells for."""
        if not is_event(self.world, event):
            raise BadEvent(event)
        store = self.state.store.twin()
        outcome = played(store, event)
        if outcome is None:
            raise NotNow(event)
        word, answer = outcome
        self.state = State(store, self.state, event, word)
        return answer

    def back(self):
        """Takes the last event back."""
        if self.state.before is None:
            raise NothingToUndo()
        self.state = self.state.before

    def copy(self):
        """An independent yard with the same events."""
        twin = Yard(self.world, self.span)
        twin.state = self.state
        return twin

    def late(self, cell):
        """The (program, edition, number) that are under way to a cell."""
        if cell not in self:
            raise NoCell(cell)
        return in_order(self.state.store.under_way.get(cell, []))

    def mark(self, cell):
        """A mark of a cell, by the numbers that stand there."""
        if cell not in self:
            raise NoCell(cell)
        return mark_of(self.state.store, cell)

    def trial(self, *, keep=False):
        """A context manager behind whose block the yard is as it was, unless it is kept."""
        return Trial(self, keep)

    def tried(self, look, *, keep=False):
        """What a function returns that is called with the yard in a trial."""
        with self.trial(keep=keep):
            return look(self)

    @property
    def many(self):
        """How many events were done and not taken back."""
        return self.state.depth

    @property
    def events(self):
        """All events that were done and not taken back."""
        return tuple([state.event for state in _states_of(self.state)])

    @property
    def wrongs(self):
        """(index, word) of all wrong events."""
        states = _states_of(self.state)
        return tuple([(index, state.word) for index, state in enumerate(states) if state.word != ""])

    @property
    def cells(self):
        """All cells that are there."""
        return ascending(list(self.state.store.stock))

    @property
    def moment(self):
        """What holds now."""
        return self.state.store.holds

    @property
    def journal(self):
        """The text of the world, the span and the events."""
        first, last = self.span
        rows = [row_of_event(event) for event in self.events]
        return "\n".join([show_world(self.world), f"span {first} {last}", *rows])

    def __contains__(self, x):
        return _is_cell(self.world, x) and x in self.state.store.stock

    def __getitem__(self, at):
        if at not in self:
            raise NoCell(at)
        return self.state.store.stock[at]

    def __setitem__(self, at, worth):
        if not _is_cell(self.world, at):
            raise NoCell(at)
        self.do(("there", at[0], at[1], worth))

    def __iter__(self):
        raise TypeError("a yard is not iterated over; its cells are")

    def __eq__(self, other):
        return (
            isinstance(other, Yard)
            and self.world == other.world
            and self.span == other.span
            and self.events == other.events
        )


def _states_of(state):
    """The states behind all events, the first one first."""
    found = []
    while state.before is not None:
        found.append(state)
        state = state.before
    return found[::-1]


def _is_cell(world, value):
    """Whether any value is a cell of the world's columns."""
    return is_tuple_of(value, 2, 2) and value[0] in world.columns and is_count(value[1])
