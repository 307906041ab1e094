"""Walks: plans that are judged moment by moment."""

from widerkeys.carrying import carried, stepped
from widerkeys.faults import fault_of
from widerkeys.growths import Node, grown
from widerkeys.marking import first_table
from widerkeys.scenes import Scene
from widerkeys.setups import Setup
from widerkeys.witnesses import run_to


class Walk:
    """The moments of a plan up to its end, or to the first one in which something is wrong."""

    def __init__(self, world, span, plan):
        self.world = world
        self.span = span
        self.setups = [Setup(world, span)]
        self.changes = []
        self.growths = [_first_growth(world, span)]
        self.fault = fault_of(self.growths[0])
        setup = self.setups[0]
        for step in plan:
            moments = stepped(setup, step)
            setup = moments[-1][1]
            for change, after in moments:
                if self.fault is None:
                    self.enter(change, after)

    def enter(self, change, setup):
        """Enters the next moment, which begins with a change."""
        scene = Scene(self.world, setup.what_holds())
        stage = len(self.growths)
        self.setups.append(setup)
        begins = []
        for column in self.world.columns:
            for node in self.growths[stage - 1].nodes_of(column):
                told = carried(scene, change, column, node.told)
                if told is not None:
                    begins.append(Node(column, told, stage, (), node, None))
        self.changes.append(change)
        self.growths.append(grown(scene, stage, begins))
        self.fault = fault_of(self.growths[stage])

    def ends(self):
        """(setup, table) of each moment in which no long step goes on."""
        pairs = list(zip(self.setups, self.growths))
        return [(setup, growth.greatest()) for setup, growth in pairs if not setup.going]

    def wrong_run(self):
        """A run that goes wrong in the last moment that was entered."""
        firsts = [growth.scene.span[0] for growth in self.growths]
        return run_to(self.world, self.span, self.changes, firsts, self.fault)


def _first_growth(world, span):
    scene = Scene(world, Setup(world, span).what_holds())
    begins = []
    for column, marks in zip(world.columns, first_table(world, span)):
        for told in marks:
            begins.append(Node(column, told, 0, ("there",), None, None))
    return grown(scene, 0, begins)
