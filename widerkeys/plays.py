"""How events are played in a store.

Each function of an event returns None, and does nothing, if the event cannot
happen now; else (word, answer): what is wrong with it, "" if nothing is, and
what the edition reads or takes cells for.
"""

from widerkeys.editions import late_side, row_of
from widerkeys.setups import FILLS, misses_side
from widerkeys.spans import is_in_use

FINE = ("", None)
REFUSED = ("refused", None)


def played(store, event):
    """Plays an event, one by its form, and tells (word, answer), or None if it cannot happen."""
    play = PLAYS[event[0]]
    outcome = play(store, event)
    if outcome is not None and event[0] != "there":
        store.started = True
    return outcome


def _there(store, event):
    _, column, row, number = event
    cell = (column, row)
    if store.started or cell in store.stock:
        return None
    if not is_in_use(store.setup.span, number) or number not in store.world.narrow:
        return None
    store.stock[cell] = (number, number, None)
    return FINE


def _begin(store, event):
    step = event[1]
    setup = store.setup.behind_begin(step)
    if setup is None:
        return None
    if step[0] in FILLS:
        store.await_visits(step[1])
    if step[0] == "drop":
        store.empty_side(step[1], step[2])
    if step[0] == "purge":
        store.forget_below(step[1])
    store.enter(setup)
    return _moment_begins(store)


def _end(store, event):
    step = event[1]
    if store.setup.going != step or store.unvisited:
        return None
    if step[0] not in FILLS:
        # The edition that a release or a withdraw leads away from.
        store.stop_late(step[1], store.setup.editions[step[1]])
    store.enter(store.setup.behind_end())
    return _moment_begins(store)


def _moment_begins(store):
    return ("missing", None) if misses_side(store.world, store.holds) else FINE


def _set(store, event):
    _, program, number, column, row, meant = event
    edition = store.edition(program, number)
    if edition is None or not is_in_use(store.setup.span, meant):
        return None
    sight, _, writes = edition
    writing = row_of(writes, column)
    if writing is None or writing[3] != "":
        return None
    if sight == "narrow" and meant not in store.world.narrow:
        return None
    done = store.put_row((program, number), (column, row), meant, meant)
    return FINE if done else REFUSED


def _copy(store, event):
    _, program, number, column, row, other = event
    edition = store.edition(program, number)
    if edition is None:
        return None
    writing = row_of(edition[2], column)
    if writing is None or writing[3] == "":
        return None
    source = (writing[3], other)
    found = _reading(store, edition, source, "")
    if found is None:
        return None
    held, reading = found
    if reading == "none":
        return "none", None
    meant = store.stock[source][0]
    done = store.put_row((program, number), (column, row), meant, held)
    if reading == "old":
        return "old", None
    return FINE if done else REFUSED


def _come(store, event):
    _, program, number, column, row, late = event
    cell = (column, row)
    waiting = store.under_way.get(cell, [])
    if (program, number, late) not in waiting:
        return None
    _, how, rule, _, _ = store.row_of_writes((program, number), cell)
    meant = store.stock[cell][0]
    if not store.put(cell, meant, late_side(how), late, rule):
        return REFUSED
    waiting.remove((program, number, late))
    return FINE


def _visit(store, event):
    fill = store.holds[3]
    if fill == () or (fill[1], event[1]) not in store.stock:
        return None
    cell = (fill[1], event[1])
    meant, narrow, wide = store.stock[cell]
    # The wide side is written without a rule: it has each number.
    side, rule, origin, goal = "wide", "", narrow, wide
    if fill[0] == "fill back":
        side, rule, origin, goal = "narrow", fill[3], wide, narrow
    if origin is not None and (fill[2] == "anew" or goal is None):
        if not store.put(cell, meant, side, origin, rule):
            return REFUSED
    store.unvisited.pop(cell, None)
    return FINE


def _read(store, event):
    _, program, number, column, row = event
    edition = store.edition(program, number)
    found = _reading(store, edition, (column, row), "")
    if found is None:
        return None
    held, reading = found
    if reading in ("none", "old"):
        return reading, held
    _, _, deeds = row_of(edition[1], column)
    return ("show" if reading == "cut" and "show" in deeds else ""), held


def _match(store, event):
    _, program, number, column, row, second, other = event
    return _compared(store, store.edition(program, number), (column, row), (second, other), "match")


def _order(store, event):
    _, program, number, column, row, other = event
    return _compared(store, store.edition(program, number), (column, row), (column, other), "order")


def _compared(store, edition, cell, other, deed):
    """The outcome of a comparison of two cells by a deed, "match" or "order"."""
    found = [_reading(store, edition, one, deed) for one in (cell, other)]
    if None in found:
        return None
    held = [number for number, _ in found]
    told = None not in held and _holds(deed, held[0], held[1])
    for _, reading in found:
        if reading in ("none", "old"):
            return reading, told
    so = _holds(deed, store.stock[cell][0], store.stock[other][0])
    return ("" if told == so else deed), told


def _holds(deed, one, other):
    return one == other if deed == "match" else one < other


def _reading(store, edition, cell, deed):
    """(held, reading) of a cell for this deed, "" for any; None if it cannot be read so.

    The reading is "none", "exact", "cut" or "old".
    """
    if edition is None or cell not in store.stock:
        return None
    sight, reads, _ = edition
    row = row_of(reads, cell[0])
    if row is None or (deed != "" and deed not in row[2]):
        return None
    meant, narrow, wide = store.stock[cell]
    held = narrow
    if row[1] == "wide" or (row[1] == "either" and wide is not None):
        held = wide
    if held is None:
        return None, "none"
    kind = store.world.narrow
    if sight == "narrow":
        held = kind.cut(held)
    if held == meant:
        return held, "exact"
    return held, ("cut" if held == kind.cut(meant) else "old")


PLAYS = {
    "there": _there,
    "begin": _begin,
    "end": _end,
    "set": _set,
    "copy": _copy,
    "come": _come,
    "visit": _visit,
    "read": _read,
    "match": _match,
    "order": _order,
}
