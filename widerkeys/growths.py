"""Growths: all that comes of the marks with which a moment begins.

A mark that is within another one leads to nothing that the other one does not
lead to. So of such two the greater one alone is kept.
"""

from widerkeys.editions import late_side
from widerkeys.marking import NOTHING, aged, is_less, kin_of, top_small
from widerkeys.sorting import ascending
from widerkeys.writing import first_side


class Node:
    """A mark of a column, with the event by which it came up in a moment."""

    def __init__(self, column, told, stage, deed, parent, source):
        self.column = column
        self.told = told
        # The index of the moment.
        self.stage = stage
        # ("set", program, edition) and the like; () where nothing happened but the moment's begin.
        self.deed = deed
        # The node that it came from, None for a new cell.
        self.parent = parent
        # Of a copy the node that was read.
        self.source = source
        self.stands = True


class Setting:
    """What a row of writes can write now: a number of this meaning and top, as this word."""

    def __init__(self, sender, row, meant, top, word, source):
        self.sender = sender
        self.row = row
        self.meant = meant
        self.top = top
        self.word = word
        # The node of which it is a copy, else None.
        self.source = source
        self.deed = ("set" if source is None else "copy", *sender)


class Growth:
    """The greatest marks of a moment, column by column."""

    def __init__(self, scene, stage):
        self.scene = scene
        self.stage = stage
        columns = scene.world.columns
        # By what is equal of a mark and of those that it is within: nodes, none within another one.
        self.fields = {column: {} for column in columns}
        # What can be written anew: (narrow, wide, late, visit), with a node of which it is left.
        self.grounds = {column: {} for column in columns}
        # What can be written, by its sender, meaning and word.
        self.settings = {column: {} for column in columns}
        self.queue = []

    def nodes_of(self, column):
        """The nodes of the greatest marks of a column."""
        return [node for kin in list(self.fields[column].values()) for node in kin]

    def greatest(self):
        """The table of the greatest marks."""
        columns = self.scene.world.columns
        return tuple([ascending([node.told for node in self.nodes_of(column)]) for column in columns])


def grown(scene, stage, begins):
    """The growth of a moment that begins with these nodes."""
    growth = Growth(scene, stage)
    for column in scene.world.columns:
        _offer_ground(growth, column, (*NOTHING, (), scene.new_visit(column)), None)
        _offer_new_numbers(growth, column)
    for node in begins:
        _reach(growth, node)
    at = 0
    while at < len(growth.queue):
        node = growth.queue[at]
        at = at + 1
        # Else a greater mark has come up, which leads to all that this one leads to.
        if node.stands:
            _lead_on(growth, node)
    return growth


def root(column, told):
    """The node of a mark of which nothing ahead is known."""
    return Node(column, told, 0, (), None, None)


def _reach(growth, node):
    """Takes a node into its field, unless its mark is within one that is there."""
    field = growth.fields[node.column]
    kin = field.get(kin_of(node.told), [])
    if any([is_less(node.told, other.told) for other in kin]):
        return
    kept = [node]
    for other in kin:
        if is_less(other.told, node.told):
            other.stands = False
        else:
            kept.append(other)
    field[kin_of(node.told)] = kept
    growth.queue.append(node)


def _lead_on(growth, node):
    scene, column, told = growth.scene, node.column, node.told
    for late in told[4]:
        stands = scene.behind_come(column, told, late)
        if stands is not None:
            _reach(growth, _changed(growth, node, stands, told[5], ("come", *late)))
    if scene.is_filled(column):
        stands = scene.behind_visit(column, told)
        if stands is not None:
            _reach(growth, _changed(growth, node, stands, "seen", ("visit",)))
    _offer_ground(growth, column, aged(told), node)
    _offer_copies(growth, node)


def _changed(growth, node, stands, visit, deed):
    """The node behind an event that changes what stands in a cell, not what is meant there."""
    told = (node.told[0], node.told[1], stands[0], stands[1], node.told[4], visit)
    return Node(node.column, told, growth.stage, deed, node, None)


def _offer_ground(growth, column, ground, node):
    if ground in growth.grounds[column]:
        return
    growth.grounds[column][ground] = node
    for setting in list(growth.settings[column].values()):
        _write(growth, column, ground, setting)


def _offer_setting(growth, column, setting):
    key = (setting.sender, setting.meant, setting.word)
    known = growth.settings[column].get(key, None)
    if known is not None and known.top >= setting.top:
        return
    growth.settings[column][key] = setting
    for ground in list(growth.grounds[column]):
        _write(growth, column, ground, setting)


def _offer_new_numbers(growth, column):
    """Offers what the rows of writes without a source can set."""
    span = growth.scene.span
    top = top_small(growth.scene.world, span)
    for program, number, sight, row in growth.scene.writers[column]:
        if row[3] != "":
            continue
        if span[0] <= top:
            _offer_setting(growth, column, Setting((program, number), row, "small", top, "same", None))
        if sight == "wide" and span[1] > top:
            _offer_setting(growth, column, Setting((program, number), row, "great", span[1], "same", None))


def _offer_copies(growth, node):
    """Offers what the rows of writes with this node's column as their source can copy of it."""
    readings = growth.scene.readings_of(node.column, node.told)
    words = {(program, number): reading for program, number, _, reading in readings}
    for column in growth.scene.world.columns:
        for program, number, _, row in growth.scene.writers[column]:
            reading = words[(program, number)] if row[3] == node.column else ""
            if reading in ("exact", "cut"):
                word = "same" if reading == "exact" else "cut"
                meant, top = node.told[:2]
                _offer_setting(growth, column, Setting((program, number), row, meant, top, word, node))


def behind_setting(scene, column, stands, setting):
    """(narrow, wide) of a cell behind what is set; None if it is refused."""
    _, how, rule, _, _ = setting.row
    return scene.put(column, stands, setting.meant, first_side(how), setting.word, rule)


def _write(growth, column, ground, setting):
    narrow, wide, late, visit = ground
    stands = behind_setting(growth.scene, column, (narrow, wide), setting)
    if stands is None:
        return
    if late_side(setting.row[1]) != "":
        late = ascending([*late, (*setting.sender, setting.word)])
    told = (setting.meant, setting.top, stands[0], stands[1], late, visit)
    parent = growth.grounds[column][ground]
    _reach(growth, Node(column, told, growth.stage, setting.deed, parent, setting.source))
