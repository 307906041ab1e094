"""Steps of a plan, and what holds in its moments."""

from widerkeys.editions import editions_of
from widerkeys.errors import BadPlan, BadSpan
from widerkeys.forms import is_plain_part, is_tuple_of, step_form
from widerkeys.setups import Setup
from widerkeys.spans import is_fit

MOST_STEPS = 14


def is_step(world, value):
    """Whether any value is a step by its form, of columns and programs of the world."""
    form = step_form(value)
    return form is not None and are_parts(world, form, value[1:])


def moments(world, span, plan):
    """What holds in each moment of a plan: ahead of it, amid its long steps, behind each step."""
    if not is_fit(world, span):
        raise BadSpan(span)
    if not is_tuple_of(plan, 0, MOST_STEPS):
        raise BadPlan(None)
    setup = Setup(world, span)
    found = [setup.what_holds()]
    for index, step in enumerate(plan):
        setup = setup.behind_begin(step) if is_step(world, step) else None
        if setup is None:
            raise BadPlan(index)
        found.append(setup.what_holds())
        if setup.going:
            setup = setup.behind_end()
            found.append(setup.what_holds())
    return tuple(found)


def are_parts(world, form, items):
    """Whether any values stand for the parts of a form, with the names of the world."""
    if len(items) != len(form):
        return False
    return all([_is_part(world, part, item) for part, item in zip(form, items)])


def _is_part(world, part, item):
    if part == "column":
        return item in world.columns
    if part == "program":
        return editions_of(world, item) != ()
    return is_plain_part(part, item)
