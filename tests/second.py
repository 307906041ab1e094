"""A second look at sections 9 and 10, written apart from the package.

It keeps all marks, not the greatest ones alone, goes over all of them again
until nothing new comes, and compares all numbers of spans one by one. So it is
for small worlds only.
"""

import functools

LONG = ("fill", "fill back", "release", "withdraw")


def moments_of(world, span, plan):
    """(change, what holds) for each moment; the plan has to be one."""
    from widerkeys.steps import moments

    changes = [None]
    for step in plan:
        changes.append(("begin", step))
        if step[0] in LONG:
            changes.append(("end", step))
    return list(zip(changes, moments(world, span, plan)))


def judge(world, span, plan):
    """The tables, as sets of all marks by column, up to the first moment with something wrong; and if one is."""
    found = []
    marks = None
    for change, holds in moments_of(world, span, plan):
        begins = begin(world, holds, change, marks)
        marks = close(world, holds, begins)
        found.append(marks)
        if is_wrong(world, holds, marks):
            return found, True
    return found, False


def begin(world, holds, change, marks):
    """The marks with which a moment begins."""
    first, last = holds[4]
    high = world.narrow.high
    if change is None:
        start = {("small", min(last, high), "same", "none", (), "")} if first <= high else set()
        return {column: set(start) for column in world.columns}
    found = {}
    for column in marks:
        found[column] = {after for mark in marks[column] for after in carry(world, holds, change, column, mark)}
    return found


def carry(world, holds, change, column, mark):
    meant, top, narrow, wide, late, visit = mark
    word, step = change
    if step[0] in ("fill", "fill back") and step[1] == column:
        if word == "begin":
            visit = "ahead"
        elif visit == "ahead":
            return []
        else:
            visit = ""
    if step[0] == "drop" and step[1] == column:
        if step[2] == "narrow":
            narrow = "none"
        else:
            wide = "none"
    late = tuple(one for one in late if one[:2] in holds[0])
    mark = (meant, top, narrow, wide, late, visit)
    return [mark] if numbers(world, holds, mark) else []


def numbers(world, holds, mark):
    first = holds[4][0]
    if mark[0] == "great":
        first = max(first, world.narrow.high + 1)
    return range(first, mark[1] + 1)


def rows_of(world, holds, which):
    """(program, number, sight, row) of all rows of reads (1) or of writes (2) that run."""
    for program, number in holds[0]:
        edition = dict(world.programs)[program][number]
        for row in edition[which]:
            yield program, number, edition[0], row


def close(world, holds, begins):
    marks = {column: set(begins[column]) for column in begins}
    while True:
        new = {column: {mark for mark in leads(world, holds, column, marks) if mark is not None} for column in marks}
        if all(new[column] <= marks[column] for column in marks):
            return marks
        for column in marks:
            marks[column] |= new[column]


def leads(world, holds, column, marks):
    """All marks to which events lead in a column, None for each refused event."""
    fill = holds[3]
    filled = fill != () and fill[1] == column
    new = ("", 0, "none", "none", (), "seen" if filled else "")
    found = []
    for value in settings(world, holds, column, marks):
        for mark in [new, *marks[column]]:
            found.append(set_on(world, holds, column, mark, value))
    for mark in marks[column]:
        for late in mark[4]:
            found.append(come(world, holds, column, mark, late))
        if filled:
            found.append(visited(world, holds, column, mark))
    return found


def settings(world, holds, column, marks):
    """(program, number, how, rule, meant, top, word) of all that can be set in a column."""
    first, last = holds[4]
    high = world.narrow.high
    for program, number, sight, row in rows_of(world, holds, 2):
        _, how, rule, source, _ = row
        if row[0] != column:
            continue
        if source == "":
            if first <= high:
                yield program, number, how, rule, "small", min(last, high), "same"
            if sight == "wide" and last > high:
                yield program, number, how, rule, "great", last, "same"
            continue
        for mark in marks[source]:
            read = reading(world, program, number, source, mark)
            if read == "exact":
                yield program, number, how, rule, mark[0], mark[1], "same"
            if read == "cut":
                yield program, number, how, rule, "great", mark[1], "cut"


def reading(world, program, number, column, mark):
    """How an edition reads a mark; "" if it does not read the column."""
    sight, reads, _ = dict(world.programs)[program][number]
    for name, side, _ in reads:
        if name != column:
            continue
        word = {"narrow": mark[2], "wide": mark[3]}.get(side, mark[3] if mark[3] != "none" else mark[2])
        if word == "cut":
            return "cut"
        if word == "same":
            return "exact" if sight == "wide" or mark[0] == "small" else "cut"
        return word
    return ""


OLDER = {"small": {"same": "old", "cut": "old"}, "great": {"same": "far", "cut": "old"}, "": {}}


def set_on(world, holds, column, mark, value):
    program, number, how, rule, meant, top, word = value
    older = OLDER[mark[0]]
    narrow, wide = [older.get(side, side) for side in mark[2:4]]
    late = {(*one[:2], older.get(one[2], one[2])) for one in mark[4]}
    sides = put(world, holds, column, (narrow, wide), meant, how.split()[0], word, rule)
    if sides is None:
        return None
    if how in ("narrow first", "wide first"):
        late.add((program, number, word))
    return (meant, top, *sides, tuple(sorted(late)), mark[5])


def come(world, holds, column, mark, late):
    for program, number, _, row in rows_of(world, holds, 2):
        if (program, number, column) == (*late[:2], row[0]):
            side = {"narrow first": "wide", "wide first": "narrow"}[row[1]]
            sides = put(world, holds, column, mark[2:4], mark[0], side, late[2], row[2])
            return sides and (*mark[:2], *sides, *mark[4:])
    raise AssertionError(late)


def visited(world, holds, column, mark):
    fill = holds[3]
    sides = mark[2:4]
    if fill[0] == "fill":
        if mark[2] != "none" and (fill[2] == "anew" or mark[3] == "none"):
            sides = put(world, holds, column, sides, mark[0], "wide", mark[2], "")
    elif mark[3] != "none" and (fill[2] == "anew" or mark[2] == "none"):
        sides = put(world, holds, column, sides, mark[0], "narrow", mark[3], fill[3])
    return sides and (*mark[:2], *sides, mark[4], "seen")


def put(world, holds, column, sides, meant, goal, word, rule):
    """What stands in the sides behind a writing, None if it is refused."""
    there = holds[1][world.columns.index(column)]
    mirrors = {(name, way): mirror_rule for name, way, mirror_rule in holds[2]}
    narrow, wide = sides
    if goal in ("narrow", "both") and there != "wide":
        narrow = narrowed(meant, word, rule)
        if narrow is None:
            return None
        if goal == "narrow" and (column, "up") in mirrors:
            wide = narrow
    if goal in ("wide", "both") and there != "narrow":
        wide = word
        if goal == "wide" and (column, "down") in mirrors:
            narrow = narrowed(meant, word, mirrors[(column, "down")])
            if narrow is None:
                return None
    return narrow, wide


def narrowed(meant, word, rule):
    if word != "far" and (word, meant) != ("same", "great"):
        return word
    return {"cut": "old" if word == "far" else "cut", "empty": "none", "refuse": None}[rule]


def is_wrong(world, holds, marks):
    for column, there in zip(world.columns, holds[1]):
        for program, number, _, row in rows_of(world, holds, 1):
            if row[0] == column and row[1] != "either" and there not in ("both", row[1]):
                return True
        for program, number, _, row in rows_of(world, holds, 2):
            if row[0] == column and there not in ("both", row[1]):
                return True
    for column in marks:
        if None in leads(world, holds, column, marks):
            return True
        for mark in marks[column]:
            for program, number, _, row in rows_of(world, holds, 1):
                read = reading(world, program, number, column, mark)
                if row[0] == column and (read in ("none", "old", "far") or (read == "cut" and "show" in row[2])):
                    return True
    return is_compared_wrong(world, holds, marks)


def is_compared_wrong(world, holds, marks):
    read = []
    for program, number, _, row in rows_of(world, holds, 1):
        column, _, deeds = row
        for mark in marks[column]:
            how = reading(world, program, number, column, mark)
            span = numbers(world, holds, mark)
            read.append((program, number, column, deeds, how, mark[0], span))
    read = list(dict.fromkeys(read))
    for one in read:
        for other in read:
            if one[:2] != other[:2]:
                continue
            hows = {one[4], other[4]}
            if hows == {"exact"}:
                continue
            great_exact = ("exact", "great") in (one[4:6], other[4:6])
            if "match" in one[3] and "match" in other[3]:
                if great_exact or not are_told_apart(world.narrow, one[6], other[6]):
                    return True
            if one[2] == other[2] and "order" in one[3]:
                if great_exact or not is_order_told(world.narrow, one[6], other[6]):
                    return True
    return False


@functools.lru_cache(None)
def cuts_of(low, size, span):
    return [(number - low) % size for number in span]


def are_told_apart(kind, one, other):
    for a, cut in zip(one, cuts_of(kind.low, kind.size, one)):
        for b, twin in zip(other, cuts_of(kind.low, kind.size, other)):
            if a != b and cut == twin:
                return False
    return True


def is_order_told(kind, one, other):
    for a, cut in zip(one, cuts_of(kind.low, kind.size, one)):
        for b, twin in zip(other, cuts_of(kind.low, kind.size, other)):
            if (cut < twin) != (a < b):
                return False
    return True


def is_in(one, other):
    return (
        (one[0], one[2], one[3], one[5]) == (other[0], other[2], other[3], other[5])
        and one[1] <= other[1]
        and set(one[4]) <= set(other[4])
    )


def greatest(marks):
    """The table of the marks that are within no other one."""
    table = []
    for column in marks:
        kept = [mark for mark in marks[column] if not any(mark != one and is_in(mark, one) for one in marks[column])]
        table.append(tuple(sorted(kept)))
    return tuple(table)
