"""Faults: what is wrong in a moment, with the marks from which it comes."""

from widerkeys.growths import Node, behind_setting
from widerkeys.marking import NOTHING, numbers_of
from widerkeys.setups import misses_side
from widerkeys.windows import alike, ordered

WRONG_READINGS = ("none", "old", "far")


class Fault:
    """What is wrong in a moment, and the cells that it needs.

    Each one wanted is (node, number): what a cell has to come to, and the number
    that has to be meant there, None for any. The head is how the event begins
    that is wrong then; () if it is the last one that leads to the wanted nodes,
    or where no cell is wanted, the begin of the moment.
    """

    def __init__(self, stage, wanted, head):
        self.stage = stage
        self.wanted = wanted
        self.head = head


def fault_of(growth):
    """What is wrong in a moment with its greatest marks; None if nothing is."""
    scene = growth.scene
    if misses_side(scene.world, scene.holds):
        return Fault(growth.stage, (), ())
    for column in scene.world.columns:
        fault = _refused_setting(growth, column)
        if fault is not None:
            return fault
        for node in growth.nodes_of(column):
            fault = _refused_change(growth, node)
            if fault is None:
                fault = _wrong_reading(growth, node)
            if fault is not None:
                return fault
    return _wrong_comparison(growth)


def _refused_setting(growth, column):
    # What stands in a cell does not count for this. So a new one tells of all.
    for setting in list(growth.settings[column].values()):
        if behind_setting(growth.scene, column, NOTHING, setting) is None:
            told = (setting.meant, setting.top, *NOTHING, (), "")
            return _last_event(Node(column, told, growth.stage, setting.deed, None, setting.source))
    return None


def _refused_change(growth, node):
    scene, column, told = growth.scene, node.column, node.told
    for late in told[4]:
        if scene.behind_come(column, told, late) is None:
            return _last_event(Node(column, told, growth.stage, ("come", *late), node, None))
    if scene.is_filled(column) and scene.behind_visit(column, told) is None:
        return _last_event(Node(column, told, growth.stage, ("visit",), node, None))
    return None


def _last_event(node):
    return Fault(node.stage, ((node, None),), ())


def _wrong_reading(growth, node):
    for program, number, row, reading in growth.scene.readings_of(node.column, node.told):
        if reading in WRONG_READINGS or (reading == "cut" and "show" in row[2]):
            return Fault(growth.stage, ((node, None),), ("read", program, number, node.column))
    return None


def _wrong_comparison(growth):
    """What is wrong where editions compare two cells, each of which is read well alone."""
    readings = _compared_readings(growth)
    for program, number, one_deeds, one_reading, one in readings:
        for runner, edition, other_deeds, other_reading, other in readings:
            if (runner, edition) != (program, number):
                continue
            for deed in ("match", "order"):
                if deed not in one_deeds or deed not in other_deeds:
                    continue
                # Cells of two columns are not compared by their order.
                if deed == "order" and one.column != other.column:
                    continue
                pair = _wrong_pair(growth.scene, deed, one, one_reading, other, other_reading)
                if pair is not None:
                    wanted = ((one, pair[0]), (other, pair[1]))
                    return Fault(growth.stage, wanted, (deed, program, number, one.column))
    return None


def _compared_readings(growth):
    """(program, number, deeds, reading, node) for all that counts where marks are compared.

    Of nodes that are read and meant alike the one with the greatest top tells of all.
    """
    found = {}
    for column in growth.scene.world.columns:
        for node in growth.nodes_of(column):
            for program, number, row, reading in growth.scene.readings_of(column, node.told):
                key = (program, number, column, reading, node.told[0])
                if key not in found or found[key][4].told[1] < node.told[1]:
                    found[key] = (program, number, row[2], reading, node)
    return list(found.values())


def _wrong_pair(scene, deed, one, one_reading, other, other_reading):
    """Two numbers that an edition takes wrongly as it compares two nodes, in this order, or None."""
    if one_reading == "exact" and other_reading == "exact":
        return None
    kind, first = scene.world.narrow, scene.span[0]
    one_span = numbers_of(scene.world, first, one.told[0], one.told[1])
    other_span = numbers_of(scene.world, first, other.told[0], other.told[1])
    if _is_exact_great(one, one_reading):
        # What is wrong then is found with the other one as the first.
        return None
    if _is_exact_great(other, other_reading):
        # One great number may be meant in both, and is held cut, and thus as a lesser one, in the first.
        return one_span[0], one_span[0]
    return alike(kind, one_span, other_span) if deed == "match" else ordered(kind, one_span, other_span)


def _is_exact_great(node, reading):
    return node.told[0] == "great" and reading == "exact"
