"""What the document promises over the whole program."""

import random
import unittest

from drawn import RULES, behind, draw_safe_plan, draw_span, draw_step, draw_task, draw_world, end_step, lead_on
from widerkeys.desk import Desk
from widerkeys.errors import NotNow
from widerkeys.journals import read_journal
from widerkeys.judging import judged, readings
from widerkeys.lines import row_of_event
from widerkeys.marking import is_less
from widerkeys.marks import within
from widerkeys.orders import cheapest
from widerkeys.returns import ways_back
from widerkeys.runs import shows_wrong
from widerkeys.setups import Setup
from widerkeys.texts import read_run, show_run, show_world
from widerkeys.yard import Yard

from players import ADD, ANEW, NO_DOWN, RELEASE, SHOP, WITHDRAW

LONG = ("fill", "fill back", "release", "withdraw")
DOWN = ("down", "id", "refuse")
BACK = ("fill back", "id", "anew", "refuse")
PLAN = (ADD, RELEASE, ANEW, DOWN, RELEASE, NO_DOWN, ("grow", 40000))


def drawn_world(draw):
    rules = draw.choice([("cut",), ("cut", "empty"), RULES])
    return draw_world(draw, deeds=draw.choice([0.05, 0.3]), reads=draw.choice([0.3, 0.6]), rules=rules)


def desk_of(world, span):
    return Desk(show_world(world) + f"\nspan {span[0]} {span[1]}")


class WrongRunTest(unittest.TestCase):
    def plans(self):
        """Plans of which the last step makes them wrong."""
        for seed in range(160):
            draw = random.Random(seed)
            world = drawn_world(draw)
            span = draw_span(draw, world)
            plan = draw_safe_plan(draw, world, span, draw.randint(0, 5))
            setup = Setup(world, span)
            for step in plan:
                setup = behind(setup, step)
            step = draw_step(draw, world, setup)
            plan += (step,) if step else ()
            word, run = judged(world, span, plan)
            if word == "wrong":
                yield world, span, plan, run

    def test_in_a_yard_and_at_a_desk(self):
        words = set()
        for world, span, plan, run in self.plans():
            self.assertIs(shows_wrong(world, span, plan, run), True)
            yard = Yard(world, span)
            desk = desk_of(world, span)
            answers = []
            for event in run:
                yard.do(event)
                answers.append(desk.say(row_of_event(event)))
            self.assertEqual([index for index, _ in yard.wrongs], [len(run) - 1])
            word = yard.wrongs[0][1]
            words.add(word)
            for answer in answers[:-1]:
                self.assertTrue(answer == "ok", answers)
            self.assertTrue(answers[-1].endswith(" " + word))
            self.assertEqual(desk.yard, yard)
            self.assertEqual(read_run(show_run(run)), run)
            self.assertEqual(desk.say("wrongs"), f"{len(run) - 1} {word}")
        self.assertLessEqual({"missing", "none", "show", "match", "refused"}, words)


class SafePlanTest(unittest.TestCase):
    """Safe plans that are played by drawn events."""

    def play(self, draw, world, span, plan):
        """The yard behind a plan, with a look at each moment."""
        word, tables = judged(world, span, plan)
        if word == "wrong":
            return None
        read = readings(world, span, plan)
        yard = Yard(world, span)
        for _ in range(draw.randint(0, 4)):
            column, row = draw.choice(world.columns), draw.randrange(4)
            if span[0] <= world.narrow.high and (column, row) not in yard:
                yard[column, row] = draw.randint(span[0], min(span[1], world.narrow.high))
        at = 0
        self.look(draw, yard, tables[at], read[at])
        for step in plan:
            yard.do(("begin", step))
            at += 1
            self.look(draw, yard, tables[at], read[at])
            if step[0] in LONG:
                end_step(draw, yard, step)
                at += 1
                self.look(draw, yard, tables[at], read[at])
        return yard

    def look(self, draw, yard, table, read):
        world = yard.world
        for _ in range(3):
            lead_on(draw, yard, draw.randint(1, 6), rows=4)
            self.assertEqual(yard.wrongs, ())
            for cell in yard.cells:
                mark = yard.mark(cell)
                marks = table[world.columns.index(cell[0])]
                self.assertTrue(self.is_among(world, mark, marks, yard.moment[4][0]), (mark, marks, yard.journal))
        self.look_at_readings(yard, read)

    def is_among(self, world, mark, marks, first):
        """Whether a mark by its numbers is within one of the table's.

        What stands there can be the number that is meant, or its cut, by chance.
        """
        if any(is_less(mark, other) for other in marks):
            return True
        chance = {"same": ("same", "old", "far", "cut"), "cut": ("cut", "old")}
        for other in marks:
            if (mark[0], mark[5]) != (other[0], other[5]) or mark[1] > other[1]:
                continue
            sides = all(theirs in chance.get(own, (own,)) for own, theirs in zip(mark[2:4], other[2:4]))
            late = all(
                any(one[:2] == own[:2] and one[2] in chance.get(own[2], (own[2],)) for one in other[4]) for own in mark[4]
            )
            if sides and late:
                return True
        return False

    def look_at_readings(self, yard, read):
        told = {key: (smalls, greats) for key, smalls, greats in read}
        kind = yard.world.narrow
        for program, number in yard.moment[0]:
            for column, row in yard.cells:
                with yard.trial():
                    try:
                        held = yard.do(("read", program, number, column, row))
                    except NotNow:
                        continue
                    meant = yard[column, row][0]
                    smalls, greats = told[(program, number, column)]
                    ways = smalls if meant in kind else greats
                    self.assertIn("exact" if held == meant else "cut", ways)
                    self.assertIn(held, (meant, kind.cut(meant)))

    def test_drawn_plans(self):
        many = 0
        for seed in range(130):
            draw = random.Random(seed)
            world = drawn_world(draw)
            span = draw_span(draw, world)
            yard = self.play(draw, world, span, draw_safe_plan(draw, world, span, draw.randint(1, 6)))
            many += yard is not None
        self.assertGreater(many, 70)

    def test_the_shop(self):
        for seed in range(25):
            draw = random.Random(seed)
            yard = self.play(draw, SHOP, (1, 200), PLAN + (("drop", "id", "narrow"),))
            self.assertEqual(yard.moment[1], ("wide",))
            self.assertEqual(read_journal(yard.journal), yard)


class OrderTest(unittest.TestCase):
    def test_a_told_order_at_a_desk(self):
        many = 0
        for seed in range(90):
            task = draw_task(seed)
            if task is None or cheapest(task)[0] == "none":
                continue
            world, span, steps, _ = task
            desk = desk_of(world, span)
            draw = random.Random(seed)
            for place in cheapest(task)[1]:
                self.assertEqual(desk.say(row_of_event(("begin", steps[place]))), "ok")
                lead_on(draw, desk.yard, 4)
                if steps[place][0] in LONG:
                    end_step(draw, desk.yard, steps[place])
                lead_on(draw, desk.yard, 4)
            self.assertEqual(desk.say("wrongs"), "-")
            many += 1
        self.assertGreater(many, 30)


class WayBackTest(unittest.TestCase):
    def test_played_from_the_journal(self):
        backs = (DOWN, BACK, WITHDRAW, WITHDRAW)
        ways = ways_back(SHOP, (1, 200), PLAN, backs)
        for seed in range(15):
            draw = random.Random(seed)
            for done, row in enumerate(ways):
                yard = Yard(SHOP, (1, 200))
                self.do_steps(draw, yard, PLAN[:done])
                yard = read_journal(yard.journal)
                if row is not None:
                    self.do_steps(draw, yard, [backs[place] for place in row])
                    self.assertEqual(yard.moment[0], (("shop", 0),))
                self.assertEqual(yard.wrongs, ())

    def do_steps(self, draw, yard, steps):
        for step in steps:
            yard.do(("begin", step))
            lead_on(draw, yard, 5)
            if step[0] in LONG:
                end_step(draw, yard, step)
            lead_on(draw, yard, 5)


if __name__ == "__main__":
    unittest.main()
