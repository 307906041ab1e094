"""Events of a run by their form."""

from widerkeys.editions import editions_of
from widerkeys.forms import compares_itself, event_form
from widerkeys.steps import are_parts, is_step


def is_event(world, value):
    """Whether any value is an event by its form, with the names and editions of the world."""
    form = event_form(value)
    if form is None:
        return False
    if form == ("step",):
        return len(value) == 2 and is_step(world, value[1])
    if not are_parts(world, form, value[1:]):
        return False
    if form[0] == "program" and value[2] >= len(editions_of(world, value[1])):
        return False
    return not compares_itself(value)
