"""Setups: what holds in a store, and which step can begin or end in it."""

from widerkeys.editions import edition_of, editions_of, needs_side, other_side
from widerkeys.spans import is_fit

FILLS = ("fill", "fill back")


class Setup:
    """What holds at one time. It is not changed: each step leads to another one."""

    def __init__(self, world, span):
        self.world = world
        self.editions = {name: 0 for name, _ in world.programs}
        self.sides = {column: "narrow" for column in world.columns}
        self.ups = {}
        self.downs = {}
        # The long step that goes on, else ().
        self.going = ()
        self.span = span
        # Each last number that has ever been in use.
        self.lasts = [span[1]]

    def behind_begin(self, step):
        """The setup behind the begin of a step; None if it cannot begin now."""
        possible = POSSIBLE[step[0]]
        if self.going or not possible(self, step):
            return None
        after = _twin(self)
        change = CHANGES[step[0]]
        change(after, step)
        return after

    def behind_end(self):
        """The setup behind the end of the long step that goes on."""
        after = _twin(self)
        if self.going[0] == "release":
            after.editions[self.going[1]] = self.editions[self.going[1]] + 1
        if self.going[0] == "withdraw":
            after.editions[self.going[1]] = self.editions[self.going[1]] - 1
        return after

    def what_holds(self):
        """(running, sides, mirrors, fill, span), as it is told of a moment."""
        running = []
        mirrors = []
        for name, _ in self.world.programs:
            for edition in _running(self, name):
                running.append((name, edition))
        for column in self.world.columns:
            if column in self.downs:
                mirrors.append((column, "down", self.downs[column]))
            if column in self.ups:
                mirrors.append((column, "up", ""))
        sides = tuple([self.sides[column] for column in self.world.columns])
        fill = self.going if self.going and self.going[0] in FILLS else ()
        return tuple(running), sides, tuple(mirrors), fill, self.span


def misses_side(world, holds):
    """Whether an edition that runs reads or writes a side that is not there, in what holds."""
    running, sides, _, _, _ = holds
    for column, there in zip(world.columns, sides):
        if there == "both":
            continue
        for program, number in running:
            if needs_side(edition_of(world, program, number), column, other_side(there)):
                return True
    return False


def _twin(setup):
    """Another setup in which the same holds, but that no long step goes on."""
    twin = Setup(setup.world, setup.span)
    twin.editions = dict(setup.editions)
    twin.sides = dict(setup.sides)
    twin.ups = dict(setup.ups)
    twin.downs = dict(setup.downs)
    twin.lasts = list(setup.lasts)
    return twin


def _running(setup, program):
    """The editions of a program that run, the least one first."""
    edition = setup.editions[program]
    if setup.going == ("release", program):
        return edition, edition + 1
    if setup.going == ("withdraw", program):
        return edition - 1, edition
    return (edition,)


def _can_add(setup, step):
    return setup.sides[step[1]] == "narrow"


def _add(setup, step):
    setup.sides[step[1]] = "both"


def _can_drop(setup, step):
    return _has_both(setup, step) and step[1] not in setup.ups and step[1] not in setup.downs


def _drop(setup, step):
    setup.sides[step[1]] = other_side(step[2])


def _can_mirror_up(setup, step):
    return _has_both(setup, step) and step[1] not in setup.ups


def _mirror_up(setup, step):
    setup.ups[step[1]] = True


def _is_up(setup, step):
    return step[1] in setup.ups


def _end_up(setup, step):
    del setup.ups[step[1]]


def _can_mirror_down(setup, step):
    return _has_both(setup, step) and step[1] not in setup.downs


def _mirror_down(setup, step):
    setup.downs[step[1]] = step[2]


def _is_down(setup, step):
    return step[1] in setup.downs


def _end_down(setup, step):
    del setup.downs[step[1]]


def _has_both(setup, step):
    return setup.sides[step[1]] == "both"


def _can_release(setup, step):
    return setup.editions[step[1]] + 1 < len(editions_of(setup.world, step[1]))


def _can_withdraw(setup, step):
    return setup.editions[step[1]] > 0


def _go_on(setup, step):
    setup.going = step


def _can_grow(setup, step):
    first, last = setup.span
    # What is greater than the wide kind's last number is no fit span's last one.
    return step[1] > last and is_fit(setup.world, (first, step[1]))


def _grow(setup, step):
    setup.span = (setup.span[0], step[1])
    setup.lasts.append(step[1])


def _can_purge(setup, step):
    first, last = setup.span
    if not first < step[1] <= last:
        return False
    # Cells that were written while an earlier last was in use may still be there.
    spans = [(step[1], used) for used in setup.lasts if used >= step[1]]
    return all([is_fit(setup.world, span) for span in spans])


def _purge(setup, step):
    setup.span = (step[1], setup.span[1])


POSSIBLE = {
    "add": _can_add,
    "drop": _can_drop,
    "up": _can_mirror_up,
    "no up": _is_up,
    "down": _can_mirror_down,
    "no down": _is_down,
    "fill": _has_both,
    "fill back": _has_both,
    "release": _can_release,
    "withdraw": _can_withdraw,
    "grow": _can_grow,
    "purge": _can_purge,
}

CHANGES = {
    "add": _add,
    "drop": _drop,
    "up": _mirror_up,
    "no up": _end_up,
    "down": _mirror_down,
    "no down": _end_down,
    "fill": _go_on,
    "fill back": _go_on,
    "release": _go_on,
    "withdraw": _go_on,
    "grow": _grow,
    "purge": _purge,
}
