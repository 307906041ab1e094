"""Witnesses: runs that are played up to what is wrong.

A mark came up by a chain of nodes. For each one that is needed a cell of its own
goes through the events of its chain, with a number for each time at which another
one was meant. What is copied is copied from a cell that stays as it is then.
"""

from widerkeys.marking import aged_word, numbers_of
from widerkeys.plays import played
from widerkeys.store import Store

SETTINGS = ("set", "copy")
SENT_WORDS = ("same", "cut")


class Witness:
    """The events of cells, moment by moment."""

    def __init__(self, world, firsts):
        self.world = world
        # The first number in use in each moment.
        self.firsts = firsts
        self.theres = []
        self.deeds = [[] for _ in firsts]
        # The rows of cells, by the node that they come to and the number meant there.
        self.rows = {}

    def row_of_cell(self, node, number):
        """The row of a cell that comes to a node, with this number meant."""
        known = self.rows.get((node, number), None)
        if known is not None:
            return known
        row = len(self.rows)
        self.rows[(node, number)] = row
        self.lead(_chain_of(node), number, row)
        return row

    def lead(self, chain, number, row):
        """Leads a cell through a chain, at the end of which this number is meant."""
        meant = self.numbers_meant(chain, number)
        origins = _origins_of(chain)
        coming = list(origins.values())
        for at, node in enumerate(chain):
            if node.deed == ():
                continue
            event = self.event_of(chain, at, meant, origins, row)
            if event[0] == "there":
                self.theres.append(event)
                continue
            # What comes several times is sent as often; this changes nothing else.
            many = coming.count(at)
            for _ in range(many if many > 1 else 1):
                self.deeds[node.stage].append(event)

    def numbers_meant(self, chain, number):
        """The number meant behind each node of a chain."""
        meant = [number]
        current = number
        for at in range(len(chain) - 1, 0, -1):
            if _is_setting(chain[at]):
                # It has to be in use as long as it is meant, and must not be taken for the last one.
                told = chain[at - 1].told
                current = self.least_number(chain[at].stage, told)
                if self.world.narrow.cut(current) == self.world.narrow.cut(number):
                    current = current + 1
            meant.append(current)
        return meant[::-1]

    def least_number(self, stage, told):
        """The least number that can be meant with a mark in a moment."""
        least, _ = numbers_of(self.world, self.firsts[stage], told[0], told[1])
        return least

    def event_of(self, chain, at, meant, origins, row):
        """The event by which a cell comes to a node of a chain."""
        node = chain[at]
        if node.deed[0] == "visit":
            return "visit", row
        worth = meant[at]
        if node.deed[0] == "copy":
            worth = self.row_of_cell(node.source, meant[at])
        if node.deed[0] == "come":
            worth = self.sent(chain[origins[at]], meant[origins[at]])
        return (*node.deed[:3], node.column, row, worth)

    def sent(self, node, number):
        """The number that is late from a node on at which this one is meant."""
        if (*node.deed[1:3], "cut") in node.told[4]:
            return self.world.narrow.cut(number)
        return number


def run_to(world, span, changes, firsts, fault):
    """A run, through these changes of moments, of which the last event is the fault, and no other one."""
    witness = Witness(world, firsts)
    rows = []
    for node, wanted in fault.wanted:
        number = witness.least_number(fault.stage, node.told) if wanted is None else wanted
        rows.append(witness.row_of_cell(node, number))
    store = Store(world, span)
    run = []
    _play_all(store, run, witness.theres)
    for stage, deeds in enumerate(witness.deeds):
        if stage > 0:
            # Only the end of a fill waits for visits.
            _play_all(store, run, [("visit", row) for _, row in list(store.unvisited)])
            _play_all(store, run, [changes[stage - 1]])
        _play_all(store, run, deeds)
    return (*run, *_last_event(fault, rows))


def _play_all(store, run, events):
    for event in events:
        played(store, event)
        run.append(event)


def _last_event(fault, rows):
    """The event that is wrong, behind all those that lead to the cells; none if it is among these."""
    if fault.head == ():
        return ()
    if fault.head[0] == "match":
        return ((*fault.head, rows[0], fault.wanted[1][0].column, rows[1]),)
    return ((*fault.head, *rows),)


def _chain_of(node):
    """The nodes by which a cell comes to a node, the first one first."""
    chain = []
    while node is not None:
        chain.append(node)
        node = node.parent
    return chain[::-1]


def _is_setting(node):
    """Whether something is set by the event of a node."""
    return node.deed != () and node.deed[0] in SETTINGS


def _origins_of(chain):
    """For each place of a chain where a late number comes the place where it was sent."""
    origins = {}
    known = {}
    meant = ""
    for at, node in enumerate(chain):
        if _is_setting(node):
            known = {(*late[:2], aged_word(meant, late[2])): known[late] for late in known}
            for word in SENT_WORDS:
                sent = (*node.deed[1:3], word)
                known[sent] = at
        elif node.deed != () and node.deed[0] == "come":
            origins[at] = known[node.deed[1:]]
        # What is late of an edition that runs no more is known no more.
        known = {late: known[late] for late in known if late in node.told[4]}
        meant = node.told[0]
    return origins
