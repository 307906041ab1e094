"""Worlds that the tests share, and a way to play runs in them."""

from widerkeys.events import is_event
from widerkeys.kinds import Kind
from widerkeys.plays import played
from widerkeys.runs import shows_wrong
from widerkeys.store import Store
from widerkeys.worlds import World

BYTE = Kind(0, 255)
SHORT = Kind(0, 65535)

ADD = ("add", "id")
UP = ("up", "id")
NO_UP = ("no up", "id")
NO_DOWN = ("no down", "id")
RELEASE = ("release", "shop")
WITHDRAW = ("withdraw", "shop")
DROP_NARROW = ("drop", "id", "narrow")
DROP_WIDE = ("drop", "id", "wide")
FILL = ("fill", "id", "empty")
ANEW = ("fill", "id", "anew")

ELDER = ("narrow", (("id", "narrow", ("show",)),), (("id", "narrow", "refuse", "", 3),))
DOUBLE = ("narrow", (("id", "narrow", ("show",)),), (("id", "both", "refuse", "", 3),))
NEWER = ("wide", (("id", "wide", ("show",)),), (("id", "wide", "refuse", "", 2),))


def world_of(*editions, columns=("id",), narrow=BYTE, wide=SHORT):
    """A world with one program, called shop."""
    return World(narrow, wide, columns, (("shop", editions),))


# The world of the document's examples.
SHOP = world_of(ELDER, DOUBLE, NEWER)

# One column, id, that is copied to another one, ref, in each way of reading.
DEEDS = ("match", "order", "show")


def copier(side, sight="wide", how="narrow", rule="cut"):
    """An edition that sets id and copies it to ref."""
    reads = (("id", side, DEEDS), ("ref", side, DEEDS))
    return sight, reads, (("id", how, rule, "", 1), ("ref", how, rule, "id", 1))


def begin(*steps):
    """The events of steps that are done, one behind the other."""
    events = []
    for step in steps:
        events.append(("begin", step))
        if step[0] in ("fill", "fill back", "release", "withdraw"):
            events.append(("end", step))
    return tuple(events)


def steps_of(run):
    return tuple([event[1] for event in run if event[0] == "begin"])


def behind(world, span, run):
    """(store, outcome) behind a run, in which nothing is wrong ahead of its last event."""
    store = Store(world, span)
    outcome = None
    for index, event in enumerate(run):
        assert is_event(world, event), event
        outcome = played(store, event)
        if index < len(run) - 1:
            assert outcome is not None and outcome[0] == "", (index, event, outcome)
    return store, outcome


def play_on(world, span, run):
    """(store, words) behind a run that goes on behind wrong events."""
    store = Store(world, span)
    words = []
    for event in run:
        assert is_event(world, event), event
        outcome = played(store, event)
        words.append(None if outcome is None else outcome[0])
    return store, words


def word_of(world, span, run):
    """The word of a run's last event, "" if nothing is wrong, None if it cannot happen.

    It is compared with what shows_wrong says of this run.
    """
    _, outcome = behind(world, span, run)
    word = None if outcome is None else outcome[0]
    plan = steps_of(run)
    if word is None and run[-1][0] == "begin":
        # This step is not possible, so no plan has it.
        plan = plan[:-1]
    assert shows_wrong(world, span, plan, run) == (word not in ("", None)), (run, word)
    return word


def stock_of(world, span, run):
    """(meant, narrow, wide) of each cell behind a run in which nothing is wrong."""
    store, outcome = behind(world, span, run)
    assert outcome is None or outcome[0] == "", outcome
    return store.stock


def late_of(world, span, run):
    """What is late for each cell behind a run in which nothing is wrong."""
    store, _ = behind(world, span, run)
    return {cell: sorted(late) for cell, late in store.under_way.items() if late}
