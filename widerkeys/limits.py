"""Limits: which numbers can stand in the place of a grow, and how far of them it is safe to go."""

from widerkeys.integers import greater
from widerkeys.marking import first_table
from widerkeys.scenes import Scene
from widerkeys.setups import Setup
from widerkeys.spans import is_fit
from widerkeys.tables import behind_step, closed_table


class Limit:
    """A grow of a plan, with what holds ahead of it and the steps behind it."""

    def __init__(self, setup, table, behind):
        self.setup = setup
        self.table = table
        self.behind = behind
        purges = [step[1] for step in behind if step[0] == "purge"]
        # The first numbers that the last one in use has to fit to.
        self.firsts = [setup.span[0], *purges]
        self.bottom = setup.span[1] + 1
        self.ceiling = setup.world.wide.high
        self.narrow_down()

    def narrow_down(self):
        """Narrows the numbers that may be possible down, by the next grow and by the purges ahead of it."""
        for step in self.behind:
            if step[0] == "grow":
                self.ceiling = step[1] - 1
                return
            if step[0] == "purge":
                self.bottom = greater(self.bottom, step[1])

    def possible_up_to(self, number):
        """The greatest possible number that is not greater; None if there is none."""
        # Only a few numbers beside each other are too few great ones, or small ones.
        while number >= self.bottom:
            if self.is_possible(number):
                return number
            number = number - 1
        return None

    def is_possible(self, number):
        firsts = [first for first in self.firsts if first <= number]
        return all([is_fit(self.setup.world, (first, number)) for first in firsts])

    def is_safe(self, number):
        return _behind_all((self.setup, self.table), (("grow", number), *self.behind)) is not None

    def best(self):
        """The greatest possible number with which nothing is wrong; None if there is none."""
        # The number that the plan itself has is possible, so there is such a one.
        number = self.possible_up_to(self.ceiling)
        return number if self.is_safe(number) else self.search(number - 1)

    def search(self, high):
        """The greatest possible number up to high with which nothing is wrong.

        With a lesser number there is less that can be wrong. So it is searched for by halves.
        """
        best = None
        low = self.bottom
        while low <= high:
            middle = (low + high) // 2
            number = self.possible_up_to(middle)
            if number is None or self.is_safe(number):
                best = number
                low = middle + 1
            else:
                high = number - 1
        return best


def furthest_last(world, span, plan, index):
    """The greatest number that can stand in a grow such that the plan is possible and safe, or None."""
    ahead = _behind_all(_begun(world, span), plan[:index])
    if ahead is None:
        return None
    return Limit(ahead[0], ahead[1], plan[index + 1 :]).best()


def _begun(world, span):
    """(setup, table) of the first moment; None if something is wrong in it."""
    setup = Setup(world, span)
    table = closed_table(Scene(world, setup.what_holds()), first_table(world, span))
    return None if table is None else (setup, table)


def _behind_all(place, steps):
    """(setup, table) behind steps, from a place that is such a pair; None if something is wrong."""
    for step in steps:
        if place is None:
            return None
        place = behind_step(place[0], place[1], step)
    return place
