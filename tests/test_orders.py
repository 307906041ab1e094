"""Safe orders of a task: the cheapest one, those with one step ahead of another, and what has to be ahead."""

import unittest
from itertools import permutations

from drawn import draw_task
from widerkeys.errors import BadPlace, BadPlan, BadTask
from widerkeys.judging import judged
from widerkeys.orders import cheapest, musts, order_with, shows_cheapest
from widerkeys.steps import moments
from widerkeys.worlds import World

from players import ADD, ANEW, BYTE, DROP_NARROW, FILL, NO_DOWN, NO_UP, RELEASE, SHOP, SHORT, UP, WITHDRAW, world_of
from samples import NO_INTEGERS, NO_SPANS, nested

SPAN = (1, 200)
DOWN = ("down", "id", "refuse")
OLD = ("narrow", (("id", "narrow", ("show",)),), (("id", "narrow", "refuse", "", 3),))
NEW = ("wide", (("id", "wide", ("show",)),), (("id", "wide", "refuse", "", 2),))
SHORT_SHOP = world_of(OLD, NEW)
STEPS = (ADD, UP, FILL, DOWN, RELEASE, NO_DOWN)
TASK = (SHORT_SHOP, SPAN, STEPS, (0, 1, 4, 1, 5, 1))
IDLE = ("wide", (), ())


def task_of(world, steps, durations=None, span=SPAN):
    return world, span, steps, durations or (1,) * len(steps)


def paces_of(world, holds):
    """The sum of the paces of all rows that write both sides."""
    running, _, mirrors, _, _ = holds
    on = {mirror[:2] for mirror in mirrors}
    total = 0
    for program, number in running:
        for column, how, _, _, pace in dict(world.programs)[program][number][2]:
            way = {"narrow": (column, "up"), "wide": (column, "down")}.get(how)
            if way is None or way in on:
                total += pace
    return total


def cost_of(task, order):
    """What an order costs, None if it is not safe."""
    world, span, steps, durations = task
    plan = tuple(steps[place] for place in order)
    try:
        if judged(world, span, plan)[0] == "wrong":
            return None
        total = 0
        for many, place in enumerate(order):
            told = moments(world, span, plan[: many + 1])
            is_long = steps[place][0] in ("fill", "fill back", "release", "withdraw")
            total += durations[place] * paces_of(world, told[-2] if is_long else told[-1])
        return total
    except BadPlan:
        return None


def safe_orders(task):
    """The costs of all safe orders, tried one by one."""
    found = {}
    for order in permutations(range(len(task[2]))):
        cost = cost_of(task, order)
        if cost is not None:
            found[order] = cost
    return found


class OrderCase(unittest.TestCase):
    def assert_cheapest(self, task, cost):
        """The answer, which tells this cost, or that there is no safe order."""
        answer = cheapest(task)
        self.assertIs(shows_cheapest(task, answer), True)
        if cost is None:
            self.assertEqual((answer[0], len(answer)), ("none", 2))
        else:
            self.assertEqual((answer[0], answer[2], len(answer)), ("order", cost, 4))
            self.assertEqual(cost_of(task, answer[1]), cost)
        return answer

    def assert_all(self, task):
        """All that is told of a task, beside all its orders."""
        found = safe_orders(task)
        self.assert_cheapest(task, min(found.values()) if found else None)
        wanted = []
        many = len(task[2])
        for one in range(many):
            for other in range(many):
                if one == other:
                    continue
                order = order_with(task, one, other)
                if order is None:
                    self.assertFalse([safe for safe in found if safe.index(one) < safe.index(other)])
                    wanted.append((other, one))
                else:
                    self.assertIn(order, found)
                    self.assertLess(order.index(one), order.index(other))
        self.assertEqual(musts(task), tuple(sorted(wanted)) if found else None)


class ExampleTest(OrderCase):
    def test_the_document_has_it(self):
        self.assert_cheapest(TASK, 40)
        first = ((0, 1), (0, 2), (0, 3), (0, 4), (0, 5), (1, 2), (1, 4), (1, 5))
        self.assertEqual(musts(TASK), first + ((2, 4), (2, 5), (3, 4), (3, 5), (4, 5)))

    def test_all_orders(self):
        self.assert_all(TASK)


class CostTest(OrderCase):
    def test_ways_of_writing(self):
        # Whether nothing, the mirror up, the mirror down, or both are on.
        for how, paces in (
            ("narrow", (0, 7, 0, 7)),
            ("wide", (0, 0, 7, 7)),
            ("both", (7, 7, 7, 7)),
            ("narrow first", (7, 7, 7, 7)),
            ("wide first", (7, 7, 7, 7)),
        ):
            writer = ("wide", (), (("id", how, "cut", "", 7),))
            world = world_of(IDLE, writer)
            for mirrors, pace in zip(((), (UP,), (DOWN[:2] + ("cut",),), (UP, DOWN[:2] + ("cut",))), paces):
                steps = (ADD, *mirrors, RELEASE)
                durations = (0,) * (len(steps) - 1) + (3,)
                self.assertEqual(cost_of((world, SPAN, steps, durations), range(len(steps))), 3 * pace)
                # Each mirror can come behind the release, so the cheapest order is without them.
                bare = 0 if how in ("narrow", "wide") else 7
                self.assert_cheapest((world, SPAN, steps, durations), 3 * bare)

    def test_amid_and_behind(self):
        # Amid the release both editions write, behind the step up the elder one alone.
        writers = [("narrow", (), (("id", "narrow", "refuse", "", pace),)) for pace in (3, 5)]
        world = world_of(*writers)
        self.assert_cheapest((world, SPAN, (ADD, UP, RELEASE), (10, 1, 0)), 3)
        self.assert_cheapest((world, SPAN, (ADD, RELEASE), (9, 9)), 0)
        # Ahead of the step up the release costs nothing, and the mirror is on for the newer one's pace.
        self.assert_cheapest((world, SPAN, (ADD, UP, RELEASE), (10, 1, 1)), 5)
        self.assert_cheapest((world, SPAN, (ADD, UP, RELEASE, NO_UP), (10, 1, 1, 7)), 3)
        self.assert_cheapest((world, SPAN, (ADD, UP, RELEASE), (10, 1, 99)), 5)

    def test_durations_of_nought(self):
        self.assert_cheapest(TASK[:3] + ((0,) * 6,), 0)
        self.assertEqual(len(cheapest(TASK[:3] + ((0,) * 6,))[3]), 1)

    def test_one_step(self):
        self.assert_cheapest(task_of(SHORT_SHOP, (ADD,)), 0)
        self.assert_cheapest(task_of(SHORT_SHOP, (UP,)), None)
        self.assert_cheapest(task_of(SHORT_SHOP, (RELEASE,)), None)
        double = ("narrow", (("id", "narrow", ()),), (("id", "both", "cut", "", 4), ))
        world = World(BYTE, SHORT, ("id", "ref"), (("shop", (OLD, double)),))
        self.assert_cheapest(task_of(world, (("add", "ref"),), (99,)), 0)

    def test_what_is_cheaper_but_not_safe(self):
        # To end the mirror ahead of the fill would cost less.
        task = (SHORT_SHOP, SPAN, (ADD, UP, FILL, NO_UP), (0, 0, 9, 0))
        self.assert_cheapest(task, 0)
        world = World(BYTE, SHORT, ("id",), (("shop", (OLD,)), ("z", (IDLE, ("wide", (("id", "wide", ()),), ())))))
        task = (world, SPAN, (ADD, UP, FILL, ("release", "z")), (0, 0, 9, 9))
        self.assert_cheapest(task, 9 * 3 + 9 * 3)
        self.assert_all(task)

    def test_no_safe_order(self):
        for steps in ((RELEASE, ADD), (ADD, RELEASE), (ADD, FILL, RELEASE), (NO_UP, ADD), (ADD, ADD), (FILL,)):
            self.assert_cheapest(task_of(SHORT_SHOP, steps), None)
            self.assertIs(musts(task_of(SHORT_SHOP, steps)), None)
            for one, other in ((0, 1), (1, 0)):
                if len(steps) > 1:
                    self.assertIs(order_with(task_of(SHORT_SHOP, steps), one, other), None)

    def test_the_first_moment_is_wrong(self):
        world = world_of(("wide", (), (("id", "narrow", "refuse", "", 1),)))
        task = (world, (1, 300), (ADD, UP), (1, 1))
        answer = self.assert_cheapest(task, None)
        self.assertEqual(len(answer[1]), 1)
        self.assertIs(musts(task), None)
        self.assertIs(order_with(task, 0, 1), None)

    def test_steps_that_are_told_twice(self):
        world = world_of(IDLE, IDLE, IDLE)
        task = task_of(world, (RELEASE, WITHDRAW, RELEASE, FILL, ADD, FILL))
        self.assert_all(task)
        task = task_of(world, (RELEASE, RELEASE, WITHDRAW, WITHDRAW, WITHDRAW, RELEASE))
        self.assert_all(task)
        # Of two columns each may have its mirrors.
        world = World(BYTE, SHORT, ("id", "ref"), (("shop", (OLD,)),))
        task = task_of(world, (ADD, UP, ("add", "ref"), ("up", "ref"), NO_UP, ("no up", "ref")))
        self.assert_cheapest(task, 3 + 0)


class OrderWithTest(OrderCase):
    def test_no_places(self):
        task = task_of(SHORT_SHOP, STEPS)
        for value in NO_INTEGERS + (-1, 6, 10 ** 17):
            for one, other in ((value, 0), (0, value), (value, "x")):
                with self.assertRaises(BadPlace) as caught:
                    order_with(task, one, other)
                self.assertIs(caught.exception.value, value)
        for place in range(6):
            with self.assertRaises(BadPlace) as caught:
                order_with(task, place, place)
            self.assertEqual(caught.exception.value, place)

    def test_arguments_by_name(self):
        self.assertEqual(order_with(other=3, one=1, task=TASK), order_with(TASK, 1, 3))
        self.assertEqual(cheapest(task=TASK), cheapest(TASK))
        self.assertEqual(musts(task=TASK), musts(TASK))
        self.assertIs(shows_cheapest(value=cheapest(TASK), task=TASK), True)


class BadTaskTest(OrderCase):
    def assert_bad(self, *values):
        for value in values:
            for call in (
                lambda task: cheapest(task),
                lambda task: shows_cheapest(task, None),
                lambda task: order_with(task, None, "x"),
                lambda task: musts(task),
            ):
                with self.assertRaises(BadTask) as caught:
                    call(value)
                self.assertIs(caught.exception.value, value)

    def changed(self, at, *values):
        for value in values:
            self.assert_bad(TASK[:at] + (value,) + TASK[at + 1 :])

    def test_other_values(self):
        self.assert_bad(True, False, None, 5, "task", (), [], {}, nested(20), SHORT_SHOP)
        self.assert_bad(list(TASK), TASK[:3], TASK + (1,), (TASK,), TASK[::-1])

    def test_worlds(self):
        self.changed(0, None, True, 5, "world", (), [], {}, BYTE, nested(3), (SHORT_SHOP,))

    def test_spans(self):
        self.changed(1, *NO_SPANS, (1, 15), (-1, 200), (0, 65536), (250, 260))

    def test_steps(self):
        self.changed(2, None, True, 6, "steps", [], {}, list(STEPS), (), STEPS[:5] + (UP,) * 2, STEPS + (ADD,))
        for step in (None, True, (), "add", ("add",), ("add", "ref"), list(ADD), ("grow", True), nested(4)):
            self.changed(2, STEPS[:5] + (step,))
        # Mirrors are put on and off once, by whichever rule.
        self.changed(2, STEPS[:5] + (UP,), STEPS[:5] + (("down", "id", "cut"),), (NO_UP,) + STEPS[:4] + (NO_UP,))
        self.changed(2, STEPS[:5], STEPS[:1])
        self.assert_bad(TASK[:2] + (STEPS + (RELEASE,), (1,) * 7))
        self.assertEqual(cheapest(TASK[:2] + (STEPS[:1], (1,)))[0], "order")

    def test_durations(self):
        self.changed(3, None, True, 6, "123456", [], {}, [1] * 6, (), (1,) * 5, (1,) * 7)
        for duration in NO_INTEGERS + (-1, 100, 10 ** 17):
            self.changed(3, (1, 2, 3, 4, 5, duration), (duration, 1, 1, 1, 1, 1))
        self.assertEqual(cheapest(TASK[:3] + ((99,) * 6,))[0], "order")


class DrawnTest(OrderCase):
    def test_drawn_tasks(self):
        many = 0
        for seed in range(110):
            task = draw_task(seed)
            if task is not None:
                many += 1
                self.assert_all(task)
        self.assertGreater(many, 50)


if __name__ == "__main__":
    unittest.main()
