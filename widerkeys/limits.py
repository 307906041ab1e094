"""Limits: which numbers can stand in the place of a grow, and how far of them it is safe to go."""

from widerkeys.integers import greater
from widerkeys.marking import first_table
from widerkeys.scenes import Scene
from widerkeys.setups import Setup
from widerkeys.spans import is_fit
from widerkeys.tables import behind_step, closed_table


class Limit:
    """The grow of a plan that stands at an index, with what is ahead of it and behind it."""

    def __init__(self, world, span, plan, index):
        self.world = world
        self.behind = plan[index + 1 :]
        # (setup, table) ahead of the grow; None if something is wrong there.
        self.ahead = _behind_all(_begun(world, span), plan[:index])
        first, last = _span_behind(span, plan[:index])
        purges = [step[1] for step in self.behind if step[0] == "purge"]
        # The first numbers that the last one in use has to fit to.
        self.firsts = [first, *purges]
        self.bottom = last + 1
        self.ceiling = world.wide.high
        self.narrow_down()

    def narrow_down(self):
        """Narrows the numbers that may be possible down, by the next grow and by the purges ahead of it."""
        for step in self.behind:
            if step[0] == "grow":
                self.ceiling = step[1] - 1
                return
            if step[0] == "purge":
                self.bottom = greater(self.bottom, step[1])

    def possible_up_to(self, number):
        """The greatest possible number that is not greater; None if there is none."""
        # Only a few numbers beside each other are too few great ones, or small ones.
        while number >= self.bottom:
            if self.is_possible(number):
                return number
            number = number - 1
        return None

    def is_possible(self, number):
        firsts = [first for first in self.firsts if first <= number]
        return all([is_fit(self.world, (first, number)) for first in firsts])

    def is_safe(self, number):
        return _behind_all(self.ahead, (("grow", number), *self.behind)) is not None

    def best(self):
        """The greatest possible number with which nothing is wrong; None if there is none."""
        if self.ahead is None:
            return None
        # The number that the plan itself has is possible, so there is such a one.
        number = self.possible_up_to(self.ceiling)
        return number if self.is_safe(number) else self.search(number - 1)

    def search(self, high):
        """The greatest possible number up to high with which nothing is wrong.

        With a lesser number there is less that can be wrong. So it is searched for by halves.
        """
        best = None
        low = self.bottom
        while low <= high:
            middle = (low + high) // 2
            number = self.possible_up_to(middle)
            if number is None or self.is_safe(number):
                best = number
                low = middle + 1
            else:
                high = number - 1
        return best


def _begun(world, span):
    """(setup, table) of the first moment; None if something is wrong in it."""
    setup = Setup(world, span)
    table = closed_table(Scene(world, setup.what_holds()), first_table(world, span))
    return None if table is None else (setup, table)


def _behind_all(place, steps):
    """(setup, table) behind steps, from a place that is such a pair; None if something is wrong."""
    for step in steps:
        if place is None:
            return None
        place = behind_step(place[0], place[1], step)
    return place


def _span_behind(span, steps):
    first, last = span
    for step in steps:
        if step[0] == "grow":
            last = step[1]
        if step[0] == "purge":
            first = step[1]
    return first, last
