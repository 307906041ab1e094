"""Worlds, spans and plans that are drawn, the same ones from the same seed."""

import random

from widerkeys.errors import NotNow
from widerkeys.judging import judged
from widerkeys.kinds import Kind
from widerkeys.setups import Setup
from widerkeys.spans import is_fit
from widerkeys.worlds import World

COLUMNS = ("a", "b", "c")
RULES = ("cut", "empty", "refuse")
DEEDS = ("match", "order", "show")


def draw_world(draw, columns=3, programs=3, editions=3, deeds=0.25, reads=0.6, rules=RULES):
    """A world with at most so many columns, programs and editions of each program.

    The fewer columns are read, and the fewer deeds there are, the more plans are safe.
    """
    low = draw.choice([0, 0, 0, -8])
    narrow = Kind(low, low + draw.choice([16, 17, 20, 33]) - 1)
    wide = Kind(draw.choice([low, low - 5]), narrow.high + draw.choice([15, 16, 17, 40, 70]))
    names = COLUMNS[: draw.randint(1, columns)]
    found = []
    in_two = 0
    for name in "pqr"[: draw.randint(1, programs)]:
        rows = []
        for number in range(draw.randint(1, editions)):
            edition, in_two = draw_edition(draw, names, number, in_two, deeds, reads, rules)
            rows.append(edition)
        found.append((name, tuple(rows)))
    return World(narrow, wide, names, tuple(found))


def draw_edition(draw, names, number, in_two, deeds, chance, rules):
    reads = []
    for column in names:
        if draw.random() < chance:
            side = draw.choice(["narrow", "either"] if number == 0 else ["narrow", "wide", "either", "either"])
            reads.append((column, side, tuple(deed for deed in DEEDS if draw.random() < deeds)))
    writes = []
    for column in names:
        if draw.random() < 0.6:
            how = "narrow"
            if number > 0:
                how = draw.choice(["narrow", "wide", "both", "both", "narrow first", "wide first"])
            if how.endswith("first"):
                in_two += 1
                if in_two > 2:
                    how = "both"
            sources = [row[0] for row in reads if row[0] != column]
            source = draw.choice(sources) if sources and draw.random() < 0.5 else ""
            writes.append((column, how, draw.choice(rules), source, draw.randint(0, 5)))
    return (draw.choice(["narrow", "wide"]), tuple(reads), tuple(writes)), in_two


def draw_span(draw, world):
    while True:
        first = draw.randint(world.narrow.low, world.narrow.high + 3)
        last = draw.randint(first, max(first, draw.choice([world.narrow.high, world.wide.high])))
        if is_fit(world, (first, last)):
            return first, last


def draw_step(draw, world, setup):
    """A step that is possible now."""
    steps = []
    for column in world.columns:
        rule = draw.choice(RULES)
        manner = draw.choice(["empty", "anew"])
        steps += [("drop", column, "narrow"), ("drop", column, "wide"), ("up", column), ("no up", column)]
        steps += [("down", column, rule), ("no down", column)] + [("add", column)] * 2
        steps += [("fill", column, manner), ("fill back", column, manner, rule)]
    for program, _ in world.programs:
        steps += [("release", program), ("release", program), ("withdraw", program)]
    first, last = setup.span
    steps.append(("grow", draw.randint(last + 1, max(last + 1, world.wide.high))))
    steps.append(("purge", draw.randint(first, last)))
    steps = [step for step in steps if setup.behind_begin(step) is not None]
    return draw.choice(steps) if steps else None


def behind(setup, step):
    after = setup.behind_begin(step)
    return after.behind_end() if after.going else after


def draw_plan(draw, world, span, many):
    """A plan of at most so many steps, whatever comes of it."""
    setup = Setup(world, span)
    plan = ()
    for _ in range(many):
        step = draw_step(draw, world, setup)
        if step is None:
            break
        plan += (step,)
        setup = behind(setup, step)
    return plan


def draw_safe_plan(draw, world, span, many):
    """A plan of at most so many steps that is safe, if the plan without steps is."""
    setup = Setup(world, span)
    plan = ()
    for _ in range(many):
        for _ in range(6):
            step = draw_step(draw, world, setup)
            if step is not None and judged(world, span, plan + (step,))[0] == "safe":
                plan += (step,)
                setup = behind(setup, step)
                break
    return plan


def draw_task(seed):
    """A task of at most five steps, None if none is drawn."""
    draw = random.Random(seed)
    rules = draw.choice([("cut",), RULES])
    world = draw_world(draw, columns=2, deeds=draw.choice([0.05, 0.3]), rules=rules)
    span = draw_span(draw, world)
    plan = draw_safe_plan(draw, world, span, 4)
    setup = Setup(world, span)
    for step in plan:
        setup = behind(setup, step)
    if len(plan) < 4 and draw.random() < 0.5:
        step = draw_step(draw, world, setup)
        plan += (step,) if step else ()
    mirrors = [step[:2] for step in plan if step[0] in ("up", "no up", "down", "no down")]
    if not plan or len(set(mirrors)) < len(mirrors):
        return None
    steps = list(plan)
    draw.shuffle(steps)
    return world, span, tuple(steps), tuple(draw.choice([0, 1, 1, 2, 5]) for _ in steps)


def draw_number(draw, yard):
    first, last = yard.moment[4]
    high = yard.world.narrow.high
    numbers = [first, last, draw.randint(first, last)]
    if first <= high:
        numbers.append(draw.randint(first, min(last, high)))
    if last > high:
        numbers.append(draw.randint(max(first, high + 1), last))
    return draw.choice(numbers)


def draw_event(draw, yard, rows=4):
    """An event that may happen now, or not, but none that changes what holds."""
    world = yard.world
    holds = yard.moment
    cells = list(yard.cells)
    word = draw.choice(["there", "set", "set", "set", "copy", "copy", "come", "come", "visit", "read", "match", "order"])
    program, number = draw.choice(holds[0])
    column = draw.choice(world.columns)
    row = draw.randrange(rows)
    if word == "there":
        return "there", column, row, draw_number(draw, yard)
    if word == "set":
        return "set", program, number, column, row, draw_number(draw, yard)
    if word == "copy":
        return "copy", program, number, column, row, draw.randrange(rows)
    if word == "visit":
        return "visit", row
    if word == "come":
        late = [(cell, one) for cell in cells for one in yard.late(cell)]
        if late:
            cell, one = draw.choice(late)
            return "come", one[0], one[1], *cell, one[2]
    if word in ("match", "order") and len(cells) > 1:
        one, other = draw.sample(cells, 2)
        if word == "match":
            return "match", program, number, *one, *other
        if one[0] == other[0]:
            return "order", program, number, *one, other[1]
    if cells:
        return "read", program, number, *draw.choice(cells)
    return "set", program, number, column, row, draw_number(draw, yard)


def lead_on(draw, yard, many, rows=4):
    """Does so many drawn events, of which some cannot happen."""
    for _ in range(many):
        try:
            yard.do(draw_event(draw, yard, rows))
        except NotNow:
            pass


def end_step(draw, yard, step):
    """Ends a long step that goes on, behind the visits that it waits for."""
    for column, row in yard.cells:
        if step[0] in ("fill", "fill back") and column == step[1] and yard.mark((column, row))[5] == "ahead":
            yard.do(("visit", row))
    yard.do(("end", step))
