"""Runs of a plan, and whether they go wrong."""

from widerkeys.events import is_event
from widerkeys.plays import played
from widerkeys.steps import moments
from widerkeys.store import Store


def shows_wrong(world, span, plan, value):
    """Whether any value is a run of this plan of which the last event is wrong, and no other one."""
    # It raises what is told for a wrong span or plan.
    moments(world, span, plan)
    if not isinstance(value, tuple):
        return False
    store = Store(world, span)
    ahead = list(plan)
    for index, event in enumerate(value):
        if not is_event(world, event):
            return False
        if event[0] == "begin":
            if not ahead or event[1] != ahead[0]:
                return False
            ahead = ahead[1:]
        outcome = played(store, event)
        if outcome is None:
            return False
        if outcome[0] != "":
            return index == len(value) - 1
    return False
