"""Marks: what counts of a cell that is there."""

from widerkeys.editions import edition_of, editions_of
from widerkeys.forms import is_ascending, is_count, is_tuple_of
from widerkeys.integers import is_between
from widerkeys.marking import is_less
from widerkeys.worlds import IN_TWO_EVENTS

MEANT = ("small", "great")
NARROW_WORDS = ("none", "same", "cut", "old")
WIDE_WORDS = ("none", "same", "cut", "old", "far")
LATE_WORDS = ("same", "cut", "old", "far")
VISITS = ("ahead", "seen", "")


def is_mark(world, value):
    """Whether any value is of the form of a mark."""
    if not is_tuple_of(value, 6, 6):
        return False
    meant, top, narrow, wide, late, visit = value
    if meant not in MEANT or narrow not in NARROW_WORDS or wide not in WIDE_WORDS or visit not in VISITS:
        return False
    if not _is_top(world, meant, top) or not _are_late(world, late):
        return False
    if meant == "great":
        return narrow != "same"
    return "cut" not in (narrow, wide) and "cut" not in [word for _, _, word in late]


def within(world, one, other):
    """Whether any values are marks and the one is within the other one."""
    return is_mark(world, one) and is_mark(world, other) and is_less(one, other)


def _is_top(world, meant, top):
    """Whether any value can be the greatest number that is meant."""
    if meant == "small":
        return is_between(top, world.narrow.low, world.narrow.high)
    return is_between(top, world.narrow.high + 1, world.wide.high)


def _are_late(world, value):
    """Whether any value is an ascending tuple of late words, each with its program and edition."""
    if not isinstance(value, tuple) or not all([_is_late(world, late) for late in value]):
        return False
    return is_ascending(value)


def _is_late(world, value):
    if not is_tuple_of(value, 3, 3):
        return False
    program, number, word = value
    if word not in LATE_WORDS or not is_count(number) or number >= len(editions_of(world, program)):
        return False
    _, _, writes = edition_of(world, program, number)
    return any([row[1] in IN_TWO_EVENTS for row in writes])
