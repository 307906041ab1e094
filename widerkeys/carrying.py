"""Carrying: what becomes of marks between two moments."""

from widerkeys.marking import numbers_of
from widerkeys.setups import FILLS

LONG = ("fill", "fill back", "release", "withdraw")


def stepped(setup, step):
    """(change, setup) for each moment that a step leads to; None if it is not possible.

    A change is the event with which the moment begins.
    """
    amid = setup.behind_begin(step)
    if amid is None:
        return None
    if not amid.going:
        return [(("begin", step), amid)]
    return [(("begin", step), amid), (("end", step), amid.behind_end())]


def changes_of(plan):
    """The changes with which the moments of a plan begin, but the first one."""
    found = []
    for step in plan:
        found.append(("begin", step))
        if step[0] in LONG:
            found.append(("end", step))
    return found


def carried(scene, change, column, told):
    """What a mark becomes as a scene begins with a change; None if it goes."""
    word, step = change
    if step[0] in FILLS and column == step[1]:
        return _carried_by_fill(word, told)
    if step[0] in ("release", "withdraw"):
        running = scene.holds[0]
        late = tuple([one for one in told[4] if one[:2] in running])
        return (*told[:4], late, told[5])
    if step[0] == "drop" and column == step[1]:
        if step[2] == "narrow":
            return (*told[:2], "none", *told[3:])
        return (*told[:3], "none", *told[4:])
    if step[0] == "purge":
        least, greatest = numbers_of(scene.world, step[1], told[0], told[1])
        return told if least <= greatest else None
    return told


def _carried_by_fill(word, told):
    if word == "begin":
        return (*told[:5], "ahead")
    return None if told[5] == "ahead" else (*told[:5], "")
