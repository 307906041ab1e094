"""The fewest rows that have to write both sides."""

import unittest
from itertools import combinations

from drawn import draw_task
from test_orders import safe_orders
from widerkeys.errors import BadRows, BadTask
from widerkeys.orders import cheapest
from widerkeys.worlds import World
from widerkeys.writers import fewest

from players import ADD, ANEW, BYTE, NO_DOWN, RELEASE, SHOP, SHORT, UP, world_of
from samples import NO_INTEGERS, nested

SPAN = (1, 200)
DOWN = ("down", "id", "refuse")
ONE = (SHOP, SPAN, (ADD, RELEASE, ANEW, DOWN, RELEASE, NO_DOWN), (1, 1, 1, 1, 1, 1))
OTHER = (SHOP, SPAN, (ADD, UP, RELEASE, ANEW, DOWN, RELEASE), (1, 1, 1, 1, 1, 1))
ROWS = (("shop", 1, "id"),)
IDLE = ("wide", (), ())


def turned_world(world, turned):
    """The world in which these rows write the side of their edition's sight alone."""
    programs = []
    for program, editions in world.programs:
        found = []
        for number, (sight, reads, writes) in enumerate(editions):
            writes = tuple((row[0], sight, *row[2:]) if (program, number, row[0]) in turned else row for row in writes)
            found.append((sight, reads, writes))
        programs.append((program, tuple(found)))
    return World(world.narrow, world.wide, world.columns, tuple(programs))


class FewestTest(unittest.TestCase):
    def test_examples(self):
        self.assertEqual(fewest(ONE, ROWS)[0], ROWS)
        self.assertEqual(fewest(OTHER, ROWS)[0], ())

    def test_order_and_cost(self):
        kept, order, cost = fewest(ONE, ROWS)
        self.assertEqual((order, cost), cheapest(ONE)[1:3])
        kept, order, cost = fewest(OTHER, ROWS)
        self.assertEqual((order, cost), cheapest((turned_world(SHOP, ROWS),) + OTHER[1:])[1:3])

    def test_none(self):
        self.assertIs(fewest((SHOP, SPAN, (ADD, RELEASE, RELEASE), (1, 1, 1)), ROWS), None)
        self.assertIs(fewest((SHOP, SPAN, (UP,), (1,)), ROWS), None)

    def test_sights(self):
        # Turned to narrow the numbers of the one edition fill the narrow side alone, to wide the wide side.
        for sight, side, there in (("narrow", "narrow", True), ("narrow", "wide", False), ("wide", "wide", True)):
            for how in ("both", "narrow first", "wide first"):
                writer = (sight, (), (("id", how, "refuse", "", 5),))
                reading = ("narrow", (("id", side, ()),), ())
                programs = (("a", (IDLE, writer)), ("b", (IDLE, reading)))
                world = World(BYTE, SHORT, ("id",), programs)
                # No cell is there at the beginning.
                steps = (ADD, ("release", "a"), ("release", "b"))
                span = SPAN if side == "narrow" else (256, 300)
                task = (world, span, steps, (0, 1, 1))
                answer = fewest(task, (("a", 1, "id"),))
                if side == "wide" and sight == "wide":
                    # A narrow edition reads the great numbers cut, which nothing forbids here.
                    self.assertEqual(answer[0], ())
                if side == "narrow" and sight == "narrow":
                    self.assertEqual((answer[0], answer[2]), ((), 0))

    def test_of_equally_many_the_least(self):
        # Each of the two suffices; the other edition then writes the narrow side, which no one reads wide.
        double = ("narrow", (("id", "narrow", ("show",)),), (("id", "both", "refuse", "", 3),))
        elder = ("narrow", (("id", "narrow", ("show",)),), (("id", "narrow", "refuse", "", 3),))
        world = World(BYTE, SHORT, ("id", "ref"), (("p", (elder, double)), ("q", (elder, double))))
        task = (world, SPAN, (ADD, ("release", "p"), ("release", "q")), (1, 1, 1))
        rows = (("p", 1, "id"), ("q", 1, "id"))
        self.assertEqual(fewest(task, rows)[0], ())
        self.assertEqual(fewest(task, rows[1:])[0], ())
        newer = ("wide", (("id", "wide", ("show",)),), ())
        world = World(BYTE, SHORT, ("id",), (("p", (elder, double)), ("q", (elder, double)), ("r", (IDLE, newer))))
        steps = (ADD, ("release", "p"), ("release", "q"), ANEW, ("release", "r"))
        self.assertEqual(fewest((world, SPAN, steps, (1,) * 5), rows)[0], rows)
        self.assertIs(fewest((world, SPAN, steps, (1,) * 5), rows)[1] is None, False)
        self.assertEqual(fewest((world, SPAN, steps, (1,) * 5), rows[:1])[0], rows[:1])

    def test_arguments_by_name(self):
        self.assertEqual(fewest(rows=ROWS, task=ONE), fewest(ONE, ROWS))


class ErrorsTest(unittest.TestCase):
    def test_tasks(self):
        for task in (None, True, (), [], {}, "task", nested(20), ONE[:3], list(ONE), (SHOP, SPAN, (), ())):
            for rows in (ROWS, None, ()):
                with self.assertRaises(BadTask) as caught:
                    fewest(task, rows)
                self.assertIs(caught.exception.value, task)

    def test_rows(self):
        double = ("narrow", (), (("id", "both", "refuse", "", 3), ("ref", "both", "refuse", "", 3)))
        first = ("narrow", (), (("id", "wide first", "refuse", "", 3), ("ref", "narrow first", "cut", "", 3)))
        wide = ("wide", (), (("id", "wide", "refuse", "", 3), ("ref", "narrow", "cut", "", 3)))
        world = World(BYTE, SHORT, ("id", "ref"), (("p", (IDLE, double, wide)), ("q", (IDLE, first, double))))
        task = (world, SPAN, (("add", "id"),), (1,))
        all_rows = tuple((name, number, column) for name, number in (("p", 1), ("q", 1), ("q", 2)) for column in ("id", "ref"))
        for many in range(1, 5):
            for rows in combinations(all_rows, many):
                self.assertEqual(fewest(task, rows), ((), (0,), 0))
        wrong = [True, False, None, 1, "rows", (), [], {}, nested(20), list(all_rows[:2]), all_rows[:5], all_rows]
        wrong += [all_rows[1::-1], all_rows[:1] * 2, all_rows[0], (list(all_rows[0]),), (all_rows[0][:2],)]
        wrong += [(all_rows[0] + ("both",),), (None,), ((),), (True,), ("pqr",)]
        for at, values in enumerate((("r", "id", None, True, ()), NO_INTEGERS + (0, 2, -1, 3, 10 ** 17), ("p", "x", None, 1, ["id"]))):
            for value in values:
                wrong.append((all_rows[0][:at] + (value,) + all_rows[0][at + 1 :],))
        for rows in wrong:
            with self.assertRaises(BadRows) as caught:
                fewest(task, rows)
            self.assertIs(caught.exception.value, rows)


class AllSetsTest(unittest.TestCase):
    def test_drawn_tasks(self):
        many = set()
        for seed in range(160):
            task = draw_task(seed)
            if task is None or len(task[2]) > 4:
                continue
            world = task[0]
            rows = []
            for program, editions in world.programs:
                for number, (_, _, writes) in enumerate(editions):
                    doubles = [row for row in writes if row[1] in ("both", "narrow first", "wide first")]
                    rows += [(program, number, row[0]) for row in doubles]
            rows = tuple(sorted(rows)[:4])
            if not rows:
                continue
            wanted = None
            for kept in sorted((kept for size in range(len(rows) + 1) for kept in combinations(rows, size)), key=len):
                turned = (turned_world(world, set(rows) - set(kept)),) + task[1:]
                found = safe_orders(turned)
                if found:
                    wanted = kept, min(found.values())
                    break
            answer = fewest(task, rows)
            if wanted is None:
                self.assertIs(answer, None)
            else:
                self.assertEqual((answer[0], answer[2]), wanted, seed)
                self.assertEqual(found[answer[1]], answer[2])
            many.add(None if wanted is None else len(wanted[0]))
        self.assertLessEqual({None, 0, 1}, many)


if __name__ == "__main__":
    unittest.main()
