"""Sorting of tuples, of strings, or of integers.

Kinds have an order in which some stand beside each other. So the rules of the
language keep Python's own sorting for what is plainly numbers or strings.
"""


def ascending(items):
    """The members of a list, all of one sort, sorted, without doubles, as a tuple."""
    row = in_order(items)
    return tuple([item for at, item in enumerate(row) if at == 0 or item != row[at - 1]])


def in_order(items):
    """The members of a list, all of one sort, sorted, as a tuple."""
    rows = [[item] for item in items]
    while len(rows) > 1:
        rows = [_merged(rows[at : at + 2]) for at in range(0, len(rows), 2)]
    return tuple(rows[0]) if rows else ()


def _merged(rows):
    """One sorted list of one, or of two, such lists."""
    if len(rows) == 1:
        return rows[0]
    one, other = rows
    merged = []
    left = right = 0
    while left < len(one) and right < len(other):
        if one[left] < other[right]:
            merged.append(one[left])
            left = left + 1
        else:
            merged.append(other[right])
            right = right + 1
    return merged + one[left:] + other[right:]
