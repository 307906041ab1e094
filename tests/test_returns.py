"""Ways back, and the steps behind which there is none."""

import random
import unittest
from itertools import permutations

from drawn import draw_safe_plan, draw_span, draw_world
from widerkeys.errors import BadBacks, BadPlan, BadSpan, Unsafe
from widerkeys.judging import judged
from widerkeys.returns import no_return, ways_back
from widerkeys.runs import shows_wrong
from widerkeys.steps import moments
from widerkeys.worlds import World

from players import ADD, ANEW, BYTE, DROP_NARROW, FILL, NO_DOWN, NO_UP, RELEASE, SHOP, SHORT, UP, WITHDRAW, world_of
from samples import NO_SPANS, nested

SPAN = (1, 200)
DOWN = ("down", "id", "refuse")
BACK = ("fill back", "id", "anew", "refuse")
PLAN = (ADD, RELEASE, ANEW, DOWN, RELEASE, NO_DOWN, ("grow", 40000))
BACKS = (DOWN, BACK, WITHDRAW, WITHDRAW)
IDLE = ("wide", (), ())


class ExampleTest(unittest.TestCase):
    def test_the_document_has_it(self):
        wanted = ((), (), (2,), (2,), (2,), (2, 3), (0, 1, 2, 3), None)
        self.assertEqual(ways_back(SHOP, SPAN, PLAN, BACKS), wanted)
        self.assertEqual(no_return(SHOP, SPAN, PLAN, BACKS), 7)

    def test_arguments_by_name(self):
        self.assertEqual(ways_back(backs=BACKS, plan=PLAN, span=SPAN, world=SHOP), ways_back(SHOP, SPAN, PLAN, BACKS))
        self.assertEqual(no_return(backs=BACKS, plan=PLAN, span=SPAN, world=SHOP), 7)


class WaysTest(unittest.TestCase):
    def assert_ways(self, wanted, lost, world, plan, backs, span=SPAN):
        self.assertEqual(ways_back(world, span, plan, backs), wanted)
        self.assertEqual(no_return(world, span, plan, backs), lost)

    def test_no_backs(self):
        self.assert_ways(((),), None, SHOP, (), ())
        self.assert_ways(((), (), None, None), 2, SHOP, PLAN[:3], ())
        self.assert_ways(((), None), 1, world_of(IDLE, IDLE), (RELEASE,), ())

    def test_the_shortest_and_least(self):
        world = world_of(IDLE, IDLE, IDLE)
        backs = (UP, WITHDRAW, WITHDRAW, WITHDRAW)
        self.assert_ways(((), (1,), (1, 2)), None, world, (RELEASE, RELEASE), backs)
        self.assert_ways(((), (0,), (0, 3)), None, world, (RELEASE, RELEASE), (WITHDRAW, UP, NO_UP, WITHDRAW))
        self.assert_ways(((), (0,), None), 2, world, (RELEASE, RELEASE), (WITHDRAW,))
        programs = (("p", (IDLE, IDLE)), ("q", (IDLE, IDLE)))
        world = World(BYTE, SHORT, ("id",), programs)
        plan = (("release", "q"), ("release", "p"), ("withdraw", "q"))
        backs = (("withdraw", "p"), ("withdraw", "q"))
        self.assert_ways(((), (1,), (0, 1), (0,)), None, world, plan, backs)

    def test_a_longer_way_that_is_safe(self):
        # The elder edition reads the narrow side, which the newer one did not write.
        newer = ("wide", (), (("id", "wide", "refuse", "", 2),))
        elder = ("wide", (("id", "narrow", ()),), (("id", "narrow", "cut", "", 1),))
        world = world_of(elder, newer)
        plan = (ADD, RELEASE)
        word, _ = judged(world, SPAN, plan)
        self.assertEqual(word, "wrong")
        world = world_of(elder, IDLE, newer)
        plan = (ADD, RELEASE, RELEASE)
        self.assert_ways(((), (), (0,), None), 3, world, plan, (WITHDRAW, WITHDRAW))
        # Amid the withdraw to the middle edition the newer one writes; behind it the fill sets all right.
        self.assert_ways(((), (), (0,), (0, 2, 1)), None, world, plan, (WITHDRAW, WITHDRAW, BACK))

    def test_none_amid_others(self):
        # What is lost amid a plan can come back.
        programs = (("p", (IDLE, IDLE)), ("q", (IDLE, IDLE)))
        world = World(BYTE, SHORT, ("id",), programs)
        plan = (("release", "p"), ("release", "q"), ("withdraw", "q"))
        self.assert_ways(((), (0,), None, (0,)), None, world, plan, (("withdraw", "p"),))
        self.assert_ways(((), (0,), None), 2, world, plan[:2], (("withdraw", "p"),))

    def test_fills_back_told_twice(self):
        world = world_of(IDLE, IDLE)
        backs = (BACK, BACK, BACK, WITHDRAW)
        self.assert_ways(((), (), (3,)), None, world, (ADD, RELEASE), backs)

    def test_more_than_fourteen_steps(self):
        world = world_of(IDLE, IDLE, IDLE)
        plan = (RELEASE, WITHDRAW) * 6 + (RELEASE, RELEASE)
        ways = ways_back(world, SPAN, plan, (WITHDRAW, WITHDRAW))
        self.assertEqual(ways, ((), (0,)) * 6 + ((), (0,), (0, 1)))
        self.assertIs(no_return(world, SPAN, plan, (WITHDRAW, WITHDRAW)), None)

    def test_no_way_from_the_beginning_on(self):
        # All programs run edition 0 at the beginning, so there is always a way from there.
        self.assertEqual(no_return(world_of(IDLE, IDLE), SPAN, (RELEASE,), ()), 1)
        plan = (RELEASE, RELEASE)
        self.assertEqual(no_return(world_of(IDLE, IDLE, IDLE), SPAN, plan, ()), 1)
        self.assertEqual(no_return(world_of(IDLE, IDLE, IDLE), SPAN, plan, (WITHDRAW,)), 2)


class ErrorsTest(unittest.TestCase):
    def assert_raises(self, error, name, wanted, *args):
        for call in (ways_back, no_return):
            with self.assertRaises(error) as caught:
                call(*args)
            self.assertEqual(getattr(caught.exception, name), wanted)

    def test_backs(self):
        wrong = PLAN[:3] + PLAN[4:5]
        for backs in (
            True,
            False,
            None,
            3,
            "backs",
            [],
            {},
            list(BACKS),
            nested(20),
            BACKS + (WITHDRAW,),
            (ADD,),
            (FILL,),
            (ANEW,),
            (RELEASE,),
            (DROP_NARROW,),
            (("grow", 300),),
            (("purge", 2),),
            (None,),
            (True,),
            ((),),
            (list(WITHDRAW),),
            (("withdraw", "id"),),
            (("up", "ref"),),
            (("fill back", "id", "anew"),),
            (UP, UP),
            (NO_UP, WITHDRAW, NO_UP),
            (DOWN, ("down", "id", "cut")),
            (NO_DOWN, NO_DOWN),
        ):
            # They are ahead of what is told of a plan that is not safe.
            for plan in (PLAN, wrong, ()):
                self.assert_raises(BadBacks, "value", backs, SHOP, SPAN, plan, backs)

    def test_mirrors_of_two_columns(self):
        world = World(BYTE, SHORT, ("id", "ref"), (("shop", (IDLE,)),))
        backs = (UP, ("up", "ref"), NO_UP, DOWN)
        self.assertEqual(ways_back(world, SPAN, (), backs), ((),))

    def test_unsafe(self):
        plan = PLAN[:3] + PLAN[4:5]
        for call in (ways_back, no_return):
            with self.assertRaises(Unsafe) as caught:
                call(SHOP, SPAN, plan, BACKS)
            self.assertIs(shows_wrong(SHOP, SPAN, plan, caught.exception.run), True)

    def test_spans_and_plans(self):
        for span in NO_SPANS:
            self.assert_raises(BadSpan, "value", span, SHOP, span, None, None)
        for plan, index in ((None, None), ([], None), ((ADD, ADD), 1), ((ADD,) * 15, None), ((True,), 0)):
            self.assert_raises(BadPlan, "index", index, SHOP, SPAN, plan, None)


class AllRowsTest(unittest.TestCase):
    def least_row(self, world, span, plan, backs):
        """The shortest and least row, of all that are tried one by one."""
        for many in range(len(backs) + 1):
            for row in permutations(range(len(backs)), many):
                whole = plan + tuple(backs[place] for place in row)
                try:
                    if judged(world, span, whole)[0] == "wrong":
                        continue
                except BadPlan:
                    continue
                running = moments(world, span, whole)[-1][0]
                if all(number == 0 for _, number in running):
                    return row
        return None

    def test_drawn_plans(self):
        lengths = set()
        for seed in range(90):
            draw = random.Random(seed)
            world = draw_world(draw, columns=2, programs=2, deeds=0.1, reads=0.4, rules=("cut", "empty"))
            span = draw_span(draw, world)
            plan = draw_safe_plan(draw, world, span, 5)
            if judged(world, span, plan)[0] == "wrong":
                continue
            steps = []
            for column in world.columns:
                steps += [("up", column), ("down", column, "cut"), ("fill back", column, "anew", "cut")]
                steps += [("no up", column), ("no down", column)]
            backs = draw.sample([("withdraw", name) for name, _ in world.programs] * 2, 2) + draw.sample(steps, 2)
            draw.shuffle(backs)
            backs = tuple(backs)
            wanted = tuple(self.least_row(world, span, plan[:many], backs) for many in range(len(plan) + 1))
            self.assertEqual(ways_back(world, span, plan, backs), wanted, seed)
            lengths |= {None if row is None else len(row) for row in wanted}
            lost = no_return(world, span, plan, backs)
            if wanted[-1] is not None:
                self.assertIs(lost, None)
            else:
                self.assertEqual(set(wanted[lost:]), {None})
                self.assertIsNot(wanted[lost - 1], None)
        self.assertLessEqual({None, 0, 1, 2}, lengths)


if __name__ == "__main__":
    unittest.main()
