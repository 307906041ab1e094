"""Searches: what can be come to by the steps of a task, in any sequence of theirs.

What holds behind some steps does not hang on their sequence. So of two ways that
do the same steps one needs no look if it costs no less, and if its table has all
marks of the other one's within its own.
"""

from widerkeys.carrying import stepped
from widerkeys.marking import first_table
from widerkeys.scenes import Scene
from widerkeys.setups import Setup
from widerkeys.sorting import ascending
from widerkeys.tables import behind_step, closed_table, is_covered
from widerkeys.tasks import cost_of


class Way:
    """Steps that are done, in a sequence, with what they cost and the table behind them."""

    def __init__(self, order, cost, table):
        self.order = order
        # The places that are done, ascending.
        self.done = ascending(list(order))
        self.cost = cost
        self.table = table


class Search:
    """The steps of a task, with what is known of what comes of them."""

    def __init__(self, task):
        self.world, self.span, self.steps, self.durations = task
        # The setup behind each of the places done; None if they cannot be done so.
        self.setups = {(): Setup(self.world, self.span)}
        # The table behind a step, by the places done, the table ahead of it and its place.
        self.tables = {}

    def places(self):
        return list(range(len(self.steps)))

    def setup_of(self, done):
        """The setup behind places that are done, in any sequence; None if there is none."""
        if done not in self.setups:
            self.setups[done] = self.find_setup(done)
        return self.setups[done]

    def find_setup(self, done):
        for place in done:
            ahead = self.setup_of(tuple([one for one in done if one != place]))
            moments = None if ahead is None else stepped(ahead, self.steps[place])
            if moments is not None:
                return moments[-1][1]
        return None

    def cost_behind(self, done, place):
        """What the step at a place costs behind places that are done, if it is possible then."""
        _, setup = stepped(self.setup_of(done), self.steps[place])[0]
        return cost_of(self.world, setup.what_holds(), self.durations[place])

    def is_possible(self, done, place):
        return stepped(self.setup_of(done), self.steps[place]) is not None

    def table_behind(self, done, table, place):
        """The table behind a step that is possible; None if something is wrong in one of its moments."""
        key = (done, table, place)
        if key not in self.tables:
            found = behind_step(self.setup_of(done), table, self.steps[place])
            self.tables[key] = None if found is None else found[1]
        return self.tables[key]

    def first_scene(self):
        return Scene(self.world, self.setups[()].what_holds())

    def first_marks(self):
        """The marks with which the first moment begins."""
        return first_table(self.world, self.span)

    def first_way(self):
        """The way without steps; None if something is wrong in the first moment."""
        table = closed_table(self.first_scene(), self.first_marks())
        return None if table is None else Way((), 0, table)

    def ways(self, ahead):
        """All ways that need a look, the shorter ones first; none if the first moment is wrong.

        Where ahead is (one, other), place one is ahead of place other in each way.
        """
        first = self.first_way()
        if first is None:
            return []
        layer = [first]
        found = [first]
        for _ in self.steps:
            layer = self.next_layer(layer, ahead)
            found.extend(layer)
        return found

    def next_layer(self, layer, ahead):
        following = {}
        for way in layer:
            for place in self.places():
                after = None if _is_barred(way, place, ahead) else self.behind_way(way, place)
                if after is not None:
                    following[after.done] = _with_way(following.get(after.done, []), after)
        return [way for ways in list(following.values()) for way in ways]

    def behind_way(self, way, place):
        """The way behind a step more; None if it is not possible or something is wrong then."""
        if not self.is_possible(way.done, place):
            return None
        table = self.table_behind(way.done, way.table, place)
        if table is None:
            return None
        return Way((*way.order, place), way.cost + self.cost_behind(way.done, place), table)


def _is_barred(way, place, ahead):
    if place in way.done:
        return True
    return ahead is not None and place == ahead[1] and ahead[0] not in way.done


def _with_way(ways, way):
    """The ways that need a look of these, which do the same steps, and one more."""
    if any([_is_no_better(way, other) for other in ways]):
        return ways
    return [*[other for other in ways if not _is_no_better(other, way)], way]


def _is_no_better(way, other):
    return other.cost <= way.cost and is_covered(other.table, way.table)
