"""Texts of plans, runs and worlds."""

from widerkeys.drafts import NO_SOURCE, drafted
from widerkeys.errors import BadPlan, BadRun, BadText
from widerkeys.lines import (
    is_event_form,
    is_step_form,
    read_event,
    read_rows,
    read_step,
    row_of_event,
    row_of_step,
)


def show_plan(plan):
    """The text of a plan, each step in a row."""
    if not isinstance(plan, tuple):
        raise BadPlan(None)
    for index, step in enumerate(plan):
        if not is_step_form(step):
            raise BadPlan(index)
    return "\n".join([row_of_step(step) for step in plan])


def read_plan(text):
    """The plan of which this is the text."""
    return tuple(read_rows(_rows_of(text), 0, read_step))


def show_run(run):
    """The text of a run, each event in a row."""
    if not isinstance(run, tuple):
        raise BadRun(None)
    for index, event in enumerate(run):
        if not is_event_form(event):
            raise BadRun(index)
    return "\n".join([row_of_event(event) for event in run])


def read_run(text):
    """The run of which this is the text."""
    return tuple(read_rows(_rows_of(text), 0, read_event))


def show_world(world):
    """The text of a world."""
    rows = [f"narrow {world.narrow}", f"wide {world.wide}"]
    for column in world.columns:
        rows.append(f"column {column}")
    for program, editions in world.programs:
        rows.append(f"program {program}")
        for sight, reads, writes in editions:
            rows.append(f"edition {sight}")
            for column, side, deeds in reads:
                rows.append(" ".join(["read", column, side, *deeds]))
            for column, how, rule, source, pace in writes:
                way = how.replace(" ", "-")
                origin = NO_SOURCE if source == "" else source
                rows.append(f"write {column} {way} {rule} {origin} {pace}")
    return "\n".join(rows)


def read_world(text):
    """The world of which this is the text."""
    if not isinstance(text, str):
        raise BadText(None)
    rows = text.split("\n")
    draft, many = drafted(rows)
    if many < len(rows):
        raise BadText(many)
    return draft.made()


def _rows_of(text):
    """The rows of any value that is a text; the empty one has none here."""
    if not isinstance(text, str):
        raise BadText(None)
    return text.split("\n") if text != "" else []
