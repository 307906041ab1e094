"""Spans of numbers in use, and which of them fit a world."""

from widerkeys.integers import greater, lesser
from widerkeys.windows import is_span

LEAST_NUMBERS = 16


def is_fit(world, value):
    """Whether any value is a span that fits: no few small numbers, and no few great ones."""
    if not is_span(value):
        return False
    first, last = value
    if first < world.narrow.low or last not in world.wide:
        return False
    smalls = lesser(last, world.narrow.high) - first + 1
    greats = last - greater(first, world.narrow.high + 1) + 1
    return _are_none_or_many(smalls) and _are_none_or_many(greats)


def is_in_use(span, number):
    """Whether an integer is in use while this span is."""
    return span[0] <= number <= span[1]


def _are_none_or_many(count):
    # What is counted below 0 is none: the span begins behind these numbers, or ends ahead of them.
    return count <= 0 or count >= LEAST_NUMBERS
