"""How editions read the marks of a safe plan, and how far a grow can lead."""

import random
import unittest

import second
from drawn import behind, draw_safe_plan, draw_span, draw_step, draw_world
from widerkeys.errors import BadPlace, BadPlan, BadSpan, Unsafe
from widerkeys.judging import furthest, judged, readings
from widerkeys.kinds import Kind
from widerkeys.runs import shows_wrong
from widerkeys.setups import Setup
from widerkeys.steps import moments
from widerkeys.worlds import World

from players import ADD, ANEW, BYTE, DROP_NARROW, NO_DOWN, RELEASE, SHOP, SHORT, world_of
from samples import NO_INTEGERS, NO_SPANS

SPAN = (1, 200)
DOWN = ("down", "id", "refuse")
PLAN = (ADD, RELEASE, ANEW, DOWN, RELEASE, NO_DOWN, ("grow", 40000), DROP_NARROW)
IDLE = ("wide", (), ())

NO_PLANS = ((None, None), ([], None), ((ADD, ADD), 1), ((ADD,) * 15, None), ((ADD, "x"), 1))


def pair():
    """The document's store whose programs only match numbers."""
    rows = (("id", "narrow", ("match",)), ("ref", "narrow", ("match",)))
    desk = ("narrow", rows, (("ref", "narrow", "cut", "id", 1),))
    maker = ("wide", (), (("id", "narrow", "cut", "", 1),))
    return World(BYTE, SHORT, ("id", "ref"), (("desk", (desk,)), ("maker", (maker,))))


def cutter(*deeds, narrow=BYTE, wide=SHORT):
    return World(narrow, wide, ("id",), (("shop", (("wide", (("id", "narrow", deeds),), (("id", "narrow", "cut", "", 1),)),)),))


class ReadingsTest(unittest.TestCase):
    def test_example(self):
        self.assertEqual(readings(SHOP, SPAN, PLAN)[-1], ((("shop", 2, "id"), ("exact",), ("exact",)),))

    def test_moments_editions_and_columns(self):
        told = readings(SHOP, SPAN, PLAN[:2])
        self.assertEqual(len(told), len(moments(SHOP, SPAN, PLAN[:2])))
        small = lambda number: (("shop", number, "id"), ("exact",), ())
        self.assertEqual(told, ((small(0),), (small(0),), (small(0), small(1)), (small(1),)))

    def test_it_ascends(self):
        reads = (("a", "narrow", ()), ("b", "either", ()), ("c", "narrow", ()))
        edition = ("wide", reads, ())
        world = World(BYTE, SHORT, ("a", "b", "c"), (("p", (edition, edition)), ("q", (edition,))))
        told = readings(world, SPAN, (("release", "p"),))[1]
        wanted = [(name, number, column) for name, number in (("p", 0), ("p", 1), ("q", 0)) for column in "abc"]
        self.assertEqual(told, tuple((key, ("exact",), ()) for key in wanted))

    def test_small_and_great(self):
        told = readings(cutter(), (1, 300), ())
        self.assertEqual(told, (((("shop", 0, "id"), ("exact",), ("cut",)),),))
        self.assertEqual(readings(cutter(), (256, 300), ()), (((("shop", 0, "id"), (), ("cut",)),),))
        self.assertEqual(readings(world_of(IDLE), (256, 300), (ADD,)), ((), ()))

    def test_nothing_to_read(self):
        world = world_of(("wide", (("id", "narrow", ()),), ()))
        self.assertEqual(readings(world, (256, 300), ()), (((("shop", 0, "id"), (), ()),),))

    def test_cut_and_exact(self):
        # The fill leaves cuts in the wide side, which the newer edition writes.
        elder = ("wide", (), (("id", "narrow", "cut", "", 1),))
        newer = ("wide", (), (("id", "wide", "cut", "", 1),))
        programs = (("a", (elder, IDLE, newer)), ("b", (IDLE, ("wide", (("id", "wide", ()),), ()))))
        world = World(BYTE, SHORT, ("id",), programs)
        plan = (ADD, ("release", "a"), ANEW, ("release", "b"), ("release", "a"))
        told = readings(world, (1, 300), plan)
        self.assertEqual(told[-1], ((("b", 1, "id"), ("exact",), ("cut", "exact")),))
        narrow = World(BYTE, SHORT, ("id",), (programs[0], ("b", (IDLE, ("narrow", (("id", "wide", ()),), ())))))
        self.assertEqual(readings(narrow, (1, 300), plan)[-1], ((("b", 1, "id"), ("exact",), ("cut",)),))

    def test_unsafe(self):
        plan = PLAN[:3] + PLAN[4:5]
        with self.assertRaises(Unsafe) as caught:
            readings(SHOP, SPAN, plan)
        self.assertIs(shows_wrong(SHOP, SPAN, plan, caught.exception.run), True)

    def test_errors_ahead_of_it(self):
        for span in NO_SPANS:
            with self.assertRaises(BadSpan) as caught:
                readings(SHOP, span, None)
            self.assertEqual(caught.exception.value, span)
        for plan, index in NO_PLANS:
            with self.assertRaises(BadPlan) as caught:
                readings(SHOP, SPAN, plan)
            self.assertEqual(caught.exception.index, index)
        with self.assertRaises(BadPlan):
            readings(SHOP, SPAN, (ADD, RELEASE, RELEASE, ADD))

    def test_arguments_by_name(self):
        self.assertEqual(readings(plan=PLAN, world=SHOP, span=SPAN), readings(SHOP, SPAN, PLAN))

    def test_beside_a_second_look(self):
        for seed in range(60):
            draw = random.Random(seed)
            world = draw_world(draw, deeds=0.1, rules=("cut", "empty"))
            span = draw_span(draw, world)
            plan = draw_safe_plan(draw, world, span, 4)
            found, wrong = second.judge(world, span, plan)
            if wrong:
                continue
            wanted = []
            for (_, holds), marks in zip(second.moments_of(world, span, plan), found):
                rows = {}
                for program, number, _, row in second.rows_of(world, holds, 1):
                    ways = {"small": set(), "great": set()}
                    for mark in marks[row[0]]:
                        ways[mark[0]].add(second.reading(world, program, number, row[0], mark))
                    rows[(program, number, row[0])] = [tuple(sorted(ways[meant])) for meant in ("small", "great")]
                wanted.append(tuple((key, *rows[key]) for key in sorted(rows)))
            self.assertEqual(readings(world, span, plan), tuple(wanted))


class FurthestTest(unittest.TestCase):
    def assert_furthest(self, wanted, world, span, plan, index):
        """The number is safe, and the next possible one is not, nor is any if None is told."""
        self.assertEqual(furthest(world, span, plan, index), wanted)
        if wanted is not None:
            self.assertEqual(judged(world, span, self.with_grow(plan, index, wanted))[0], "safe")

    def with_grow(self, plan, index, last):
        return plan[:index] + (("grow", last),) + plan[index + 1 :]

    def test_examples(self):
        self.assert_furthest(65535, SHOP, SPAN, PLAN, 6)
        slide = (("grow", 300), ("purge", 150), ("grow", 400))
        self.assert_furthest(355, pair(), (100, 200), slide, 0)
        self.assert_furthest(405, pair(), (100, 200), slide, 2)

    def test_one_beyond(self):
        slide = (("grow", 300), ("purge", 150), ("grow", 400))
        for index, last in ((0, 356), (2, 406)):
            self.assertEqual(judged(pair(), (100, 200), self.with_grow(slide, index, last))[0], "wrong")

    def test_small_numbers_alone(self):
        world = world_of(("narrow", (("id", "narrow", ("show",)),), (("id", "narrow", "refuse", "", 1),)))
        self.assert_furthest(65535, world, SPAN, (("grow", 255),), 0)
        self.assert_furthest(255, cutter("show"), SPAN, (("grow", 230),), 0)
        # The next greater ones are too few, and those behind them are wrong.
        self.assertEqual(judged(cutter("show"), SPAN, (("grow", 271),))[0], "wrong")

    def test_the_next_grow_is_greater(self):
        plan = (("grow", 300), ("grow", 500), ("grow", 501))
        world = world_of(("wide", (), (("id", "narrow", "cut", "", 1),)))
        self.assert_furthest(499, world, SPAN, plan, 0)
        self.assert_furthest(500, world, SPAN, plan, 1)
        self.assert_furthest(65535, world, SPAN, plan, 2)

    def test_purges_have_to_be_possible(self):
        world = world_of(("wide", (), (("id", "narrow", "cut", "", 1),)))
        # Of 300 to 309 there are ten numbers.
        plan = (("grow", 280), ("grow", 400), ("purge", 300))
        self.assert_furthest(399, world, SPAN, plan, 0)
        plan = (("grow", 280), ("grow", 316), ("purge", 300))
        self.assert_furthest(315, world, SPAN, plan, 0)
        plan = (("grow", 280), ("grow", 315), ("purge", 300))
        self.assert_furthest(299, world, SPAN, plan, 0)
        # With a purge of small numbers that leaves few of them the great ones have to be many.
        plan = (("grow", 255), ("purge", 230))
        self.assert_furthest(65535, world, SPAN, plan, 0)
        self.assert_furthest(255, cutter("show"), SPAN, plan, 0)

    def test_a_purge_behind_it_needs_numbers(self):
        # The grow has to reach the purge, and there it is wrong already.
        self.assert_furthest(None, cutter("show"), SPAN, (("grow", 300), ("purge", 280)), 0)
        self.assert_furthest(485, cutter("match"), (230, 300), (("grow", 400), ("purge", 280)), 0)

    def test_a_purge_and_a_grow_behind_it(self):
        # From 40 to 295 no two numbers have one cut; the purge leaves 270 to 285 at least.
        plan = (("grow", 290), ("purge", 270), ("grow", 299))
        self.assert_furthest(295, cutter("match"), (40, 100), plan, 0)
        self.assertEqual(judged(cutter("match"), (40, 100), (("grow", 296),) + plan[1:])[0], "wrong")

    def test_none(self):
        self.assert_furthest(None, cutter("order"), (1, 255), (("grow", 300),), 0)
        self.assert_furthest(None, SHOP, SPAN, (ADD, RELEASE, RELEASE, ("grow", 300)), 3)
        self.assert_furthest(None, SHOP, SPAN, (ADD, ("grow", 300), RELEASE, RELEASE), 1)
        self.assert_furthest(None, cutter("show"), (1, 300), (("grow", 400),), 0)

    def test_great_kinds(self):
        world = cutter("match", narrow=Kind.unsigned(32), wide=Kind.unsigned(56))
        first = 2 ** 40
        self.assert_furthest(first + 2 ** 32 - 1, world, (first, first + 16), (("grow", first + 99),), 0)
        world = world_of(("wide", (), (("id", "narrow", "cut", "", 1),)), wide=Kind(0, 10 ** 17))
        self.assert_furthest(10 ** 17, world, SPAN, (("grow", 300),), 0)

    def test_no_places(self):
        plan = (("grow", 230), ADD, RELEASE, ("grow", 240))
        for index in NO_INTEGERS + (1, 2, -1, -4, 4, 10 ** 17, (0,), "0"):
            with self.assertRaises(BadPlace) as caught:
                furthest(SHOP, SPAN, plan, index)
            self.assertIs(caught.exception.value, index)
        self.assertEqual(furthest(SHOP, SPAN, plan, 0), 239)
        with self.assertRaises(BadPlace) as caught:
            furthest(SHOP, SPAN, (), 0)

    def test_errors_ahead_of_it(self):
        for span in NO_SPANS:
            with self.assertRaises(BadSpan) as caught:
                furthest(SHOP, span, None, None)
            self.assertEqual(caught.exception.value, span)
        for plan, index in NO_PLANS:
            with self.assertRaises(BadPlan) as caught:
                furthest(SHOP, SPAN, plan, None)
            self.assertEqual(caught.exception.index, index)

    def test_arguments_by_name(self):
        self.assertEqual(furthest(index=6, plan=PLAN, span=SPAN, world=SHOP), 65535)

    def test_all_numbers_one_by_one(self):
        found = set()
        for seed in range(140):
            draw = random.Random(seed)
            world = draw_world(draw, columns=2, deeds=0.2, rules=("cut", "empty", "refuse", "cut"))
            span = draw_span(draw, world)
            plan = draw_safe_plan(draw, world, span, 2)
            setup = Setup(world, span)
            for step in plan:
                setup = behind(setup, step)
            last = setup.span[1]
            grows = [("grow", number) for number in range(last + 1, world.wide.high + 1)]
            grows = [step for step in grows if setup.behind_begin(step) is not None]
            if not grows:
                continue
            index = len(plan)
            plan += (draw.choice(grows),)
            setup = behind(setup, plan[-1])
            for _ in range(draw.randint(0, 3)):
                step = draw_step(draw, world, setup)
                if step is not None:
                    plan += (step,)
                    setup = behind(setup, step)
            best = None
            for _, number in grows:
                try:
                    if judged(world, span, self.with_grow(plan, index, number))[0] == "safe":
                        best = number
                except BadPlan:
                    pass
            self.assertEqual(furthest(world, span, plan, index), best, seed)
            found.add(best)
        self.assertGreater(len(found), 10)


if __name__ == "__main__":
    unittest.main()
