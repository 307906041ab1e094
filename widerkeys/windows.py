"""Windows: whether programs that hold cut numbers take one number for another one.

A span may be too long for a search through all pairs. So only a few pairs are
looked at, of which the least wrong one is the least of all, if there is any.
"""

from widerkeys.errors import BadSpan
from widerkeys.integers import greater, is_integer


def is_span(value):
    """Whether any value is (first, last), integers, first <= last."""
    if not isinstance(value, tuple) or len(value) != 2:
        return False
    first, last = value
    return is_integer(first) and is_integer(last) and first <= last


def alike(kind, one, other):
    """The least pair of unlike numbers of one and of other with the same cut, or None."""
    _check_spans(one, other)
    # If a and b are such a pair, so are a - 1 and b - 1, unless one of these is
    # outside of its span. So the least a is the first of one, or has the cut of
    # the first of other: as the next such number, or, where this is the first
    # of other itself, as the one behind it.
    start = _next_like(kind, one[0], other[0])
    pairs = []
    for a in (one[0], start, start + kind.size):
        twin = _next_like(kind, other[0], a)
        for b in (twin, twin + kind.size):
            if a != b:
                pairs.append((a, b))
    return _least(pairs, one, other)


def ordered(kind, one, other):
    """The least pair of one and of other of which the cuts tell another order, or None."""
    _check_spans(one, other)
    pairs = []
    for a in _least_turned(kind, one, other):
        for b in _least_against(kind, a, other):
            if (kind.cut(a) < kind.cut(b)) != (a < b):
                pairs.append((a, b))
    return _least(pairs, one, other)


def _least_turned(kind, one, other):
    """Numbers among which is the least one of one that is in a pair told wrong, if any is."""
    # From a - 1 to a such a pair can only come up in two ways: the cut of a
    # reaches that of the first of other, which is greater than a, or the cuts
    # begin anew with a, and the cut of a lesser number of other is above them.
    return (
        one[0],
        _next_like(kind, one[0], other[0]),
        _next_like(kind, greater(one[0], other[0] + 1), kind.low),
    )


def _least_against(kind, a, other):
    """Numbers among which is the least one of other in a pair with a told wrong, if any is."""
    # Going up, a number of other comes to be in such a pair only as the first of
    # other, below a where its cut becomes greater than that of a, and above a
    # where the cuts begin anew.
    return (
        other[0],
        _next_like(kind, other[0], a + 1),
        _next_like(kind, greater(other[0], a + 1), kind.low),
    )


def _next_like(kind, start, number):
    """The least integer from start on that has the cut of number."""
    return start + (number - start) % kind.size


def _least(pairs, one, other):
    """The least of the pairs that are of one and of other, None if none is."""
    found = None
    for a, b in pairs:
        if one[0] <= a <= one[1] and other[0] <= b <= other[1]:
            if found is None or (a, b) < found:
                found = (a, b)
    return found


def _check_spans(one, other):
    for value in (one, other):
        if not is_span(value):
            raise BadSpan(value)
