"""Runs that lead to marks: each mark of a told table can be come to, and nothing is wrong on the way."""

import random
import unittest

from drawn import draw_safe_plan, draw_span, draw_world
from widerkeys.faults import Fault
from widerkeys.events import is_event
from widerkeys.plays import played
from widerkeys.store import Store
from widerkeys.walks import Walk
from widerkeys.witnesses import run_to
from widerkeys.worlds import World

from players import ADD, BYTE, RELEASE, SHORT, world_of

IDLE = ("wide", (), ())


def mark_of(store, cell):
    """(meant, narrow, wide, late, visit) of a cell, by the numbers that stand there."""
    meant, narrow, wide = store.stock[cell]
    kind = store.world.narrow

    def word(number):
        if number is None:
            return "none"
        if number == meant:
            return "same"
        if meant > kind.high and number == kind.cut(meant):
            return "cut"
        return "old" if number in kind else "far"

    late = tuple(sorted({(*one[:2], word(one[2])) for one in store.under_way.get(cell, [])}))
    fill = store.holds[3]
    visit = ""
    if fill != () and fill[1] == cell[0]:
        visit = "ahead" if cell in store.unvisited else "seen"
    return ("great" if meant > kind.high else "small"), word(narrow), word(wide), late, visit


class WitnessCase(unittest.TestCase):
    def assert_leads(self, world, span, plan):
        """Plays a run to each node of a plan that is safe."""
        walk = Walk(world, span, plan)
        if walk.fault is not None:
            return 0
        firsts = [growth.scene.span[0] for growth in walk.growths]
        many = 0
        for stage, growth in enumerate(walk.growths):
            for column in world.columns:
                for node in growth.nodes_of(column):
                    many += 1
                    run = run_to(world, span, walk.changes, firsts[: stage + 1], Fault(stage, ((node, None),), ()))
                    self.assert_led(world, span, run, node, firsts[stage])
        return many

    def assert_led(self, world, span, run, node, first):
        store = Store(world, span)
        for event in run:
            self.assertTrue(is_event(world, event), event)
            self.assertEqual((played(store, event) or ("not now",))[0], "", (run, event))
        found = mark_of(store, (node.column, 0))
        meant, top, narrow, wide, late, visit = node.told
        self.assertEqual((*found[:3], found[4]), (meant, narrow, wide, visit), (run, node.told))
        self.assertLessEqual(set(found[3]), set(late))
        self.assertTrue(first <= store.stock[(node.column, 0)][0] <= top)


class LeadTest(WitnessCase):
    def test_a_late_one_that_comes_twice(self):
        # It comes, fills the narrow side, and comes once more.
        world = world_of(IDLE, ("wide", (), (("id", "narrow first", "empty", "", 1),)))
        back = ("fill back", "id", "anew", "cut")
        self.assertGreater(self.assert_leads(world, (256, 300), (ADD, RELEASE, back)), 5)

    def test_twice_with_a_side_that_comes_anew(self):
        sender = ("wide", (), (("id", "narrow first", "empty", "", 1),))
        world = world_of(IDLE, sender)
        back = ("fill back", "id", "anew", "cut")
        # The fill writes the cut into the wide side, so that the late one has to come again.
        plan = (ADD, RELEASE, back, ("up", "id"), ("fill", "id", "anew"), ("no up", "id"))
        walk = Walk(world, (256, 300), plan)
        self.assertIs(walk.fault, None)
        told = [node.told[2:4] for node in walk.growths[-1].nodes_of("id")]
        self.assertIn(("cut", "same"), told)
        self.assert_leads(world, (256, 300), plan)

    def test_copies_of_copies(self):
        reads = (("a", "narrow", ()), ("b", "narrow", ()), ("c", "narrow", ()))
        writes = (("a", "narrow", "cut", "", 1), ("b", "narrow", "cut", "a", 1), ("c", "narrow", "cut", "b", 1))
        back = (("a", "narrow", "cut", "c", 1),)
        programs = (("p", (("wide", reads, writes),)), ("q", (("wide", reads, back),)))
        world = World(BYTE, SHORT, ("a", "b", "c"), programs)
        self.assertGreater(self.assert_leads(world, (200, 400), (("grow", 450), ("purge", 240), ("grow", 500))), 20)

    def test_numbers_that_are_purged(self):
        world = world_of(IDLE, ("wide", (), (("id", "both", "cut", "", 1),)), ("wide", (), (("id", "narrow", "cut", "", 1),)))
        plan = (ADD, RELEASE, ("grow", 300), ("purge", 100), RELEASE, ("purge", 260), ("grow", 800), ("purge", 500))
        self.assertGreater(self.assert_leads(world, (1, 200), plan), 30)

    def test_drawn_plans(self):
        many = 0
        for seed in range(120):
            draw = random.Random(seed)
            rules = draw.choice([("cut",), ("cut", "empty"), ("cut", "empty", "refuse")])
            world = draw_world(draw, deeds=0.05, reads=draw.choice([0.2, 0.5]), rules=rules)
            span = draw_span(draw, world)
            many += self.assert_leads(world, span, draw_safe_plan(draw, world, span, draw.randint(1, 8)))
        self.assertGreater(many, 1000)


if __name__ == "__main__":
    unittest.main()
