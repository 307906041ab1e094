"""Which values show that an order is safe and that none costs less, or that there is none."""

import random
import unittest
from itertools import permutations

import second
from drawn import draw_task
from test_orders import IDLE, SHORT_SHOP, SPAN, STEPS, TASK, cost_of, paces_of, task_of
from widerkeys.errors import BadPlan
from widerkeys.judging import judged
from widerkeys.orders import cheapest, shows_cheapest
from widerkeys.steps import moments

from players import ADD, BYTE, FILL, RELEASE, SHOP, UP, world_of
from samples import NO_INTEGERS, nested

OTHERS = (True, False, None, 0, "", "order", "none", (), [], {}, {1: ()}, nested(20), BYTE, SHOP, ((),), ("order",), ("none",))
ANSWER = cheapest(TASK)
PAPERS = ANSWER[3]

# The release is wrong behind whatever else.
LOST = task_of(SHORT_SHOP, (ADD, RELEASE))
NONE = cheapest(LOST)[1]

START = ("small", 200, "same", "none", (), "")


def changed(items, index, value):
    return items[:index] + (value,) + items[index + 1 :]


def without(items, index):
    return items[:index] + items[index + 1 :]


class PapersCase(unittest.TestCase):
    def assert_order(self, good, papers, cost=40, task=TASK, order=ANSWER[1]):
        self.assertIs(shows_cheapest(task, ("order", order, cost, papers)), good, papers)

    def assert_none(self, good, papers, task=LOST):
        self.assertIs(shows_cheapest(task, ("none", papers)), good, papers)


class AnswerTest(PapersCase):
    def test_right_ones(self):
        self.assert_order(True, PAPERS)
        self.assert_none(True, NONE)

    def test_other_values(self):
        for other in OTHERS + (list(ANSWER), ANSWER[:3], ANSWER + (1,), ("none",) + ANSWER[1:], ("none", PAPERS)):
            self.assertIs(shows_cheapest(TASK, other), False, other)
            self.assertIs(shows_cheapest(LOST, other), False, other)
        self.assertIs(shows_cheapest(LOST, ["none", NONE]), False)
        self.assertIs(shows_cheapest(LOST, ("order", NONE)), False)
        self.assertIs(shows_cheapest(LOST, ("none", NONE, ())), False)

    def test_words(self):
        for word in OTHERS:
            if word != "order":
                self.assertIs(shows_cheapest(TASK, changed(ANSWER, 0, word)), False)
            if word != "none":
                self.assertIs(shows_cheapest(LOST, (word, NONE)), False)

    def test_orders(self):
        for other in OTHERS + (list(ANSWER[1]), ANSWER[1][:5], ANSWER[1] + (0,), (0,) * 6, (1, 2, 3, 4, 5, 6)):
            self.assert_order(False, PAPERS, order=other)
        place = [at for at, one in enumerate(ANSWER[1]) if one in (0, 1)]
        for at, value in zip(place, (False, True)):
            self.assert_order(False, PAPERS, order=changed(ANSWER[1], at, bool(ANSWER[1][at])))
        for order in permutations(range(6)):
            self.assert_order(cost_of(TASK, order) == 40, PAPERS, order=order)

    def test_costs(self):
        for other in NO_INTEGERS + (39, 41, 0, -1, 10 ** 17):
            self.assert_order(False, PAPERS, cost=other)
        # An order that costs more is no cheapest one, whatever the papers.
        dear = (0, 1, 2, 3, 4, 5)
        self.assertEqual(cost_of(TASK, dear), 43)
        self.assert_order(False, PAPERS, cost=43, order=dear)
        self.assert_order(False, PAPERS, cost=40, order=dear)

    def test_a_place_told_twice(self):
        # The fills are alike, but each one is to be done.
        task = task_of(SHORT_SHOP, (ADD, FILL, FILL))
        papers = cheapest(task)[3]
        for order, good in (((0, 1, 2), True), ((0, 2, 1), True), ((0, 1, 1), False), ((0, 2, 2), False)):
            self.assert_order(good, papers, cost=0, task=task, order=order)

    def test_a_cost_that_is_one_or_nought(self):
        task = task_of(SHORT_SHOP, (ADD,))
        self.assertEqual(cheapest(task)[2], 0)
        self.assert_order(True, cheapest(task)[3], cost=0, task=task, order=(0,))
        self.assert_order(False, cheapest(task)[3], cost=False, task=task, order=(0,))
        self.assert_order(False, cheapest(task)[3], cost=0, task=task, order=(False,))

    def test_papers(self):
        for other in OTHERS + (list(PAPERS), (PAPERS,), PAPERS[::-1], PAPERS[:1] + PAPERS):
            self.assert_order(False, other)
            self.assert_none(False, other)


class EntryTest(PapersCase):
    def test_one_left_out(self):
        for at in range(len(PAPERS)):
            self.assert_order(False, without(PAPERS, at))
        for at in range(len(NONE)):
            self.assert_none(False, without(NONE, at))

    def test_other_values(self):
        for at, entry in enumerate(PAPERS):
            for other in OTHERS + (list(entry), entry[:2], entry + (1,)):
                self.assert_order(False, changed(PAPERS, at, other))
            for other in OTHERS:
                for part in range(3):
                    # No places are done at first, an entry may cost nothing, and an empty table is one.
                    if (part, other, isinstance(other, bool)) not in ((0, (), False), (1, 0, False), (2, ((),), False)):
                        self.assert_order(False, changed(PAPERS, at, changed(entry, part, other)))

    def test_done(self):
        for at, entry in enumerate(PAPERS):
            for done in ((6,), (-1,), (0, 0), (1, 0), (1,), (True,), (0, 5), (0, 1, 2, 3, 4, 5, 6), [0], ("0",)):
                self.assert_order(False, changed(PAPERS, at, changed(entry, 0, done)))

    def test_done_of_an_entry_more(self):
        # It costs so much that nothing else is asked of it.
        table = ((START,),)
        for done, good in (((0,), True), ((0, 3), True), ((3, 0), False), ((0, 0), False), ((-1,), False), ((6,), False)):
            self.assert_order(good, tuple(sorted(PAPERS + ((done, 40, table),))))

    def test_costs(self):
        for at, entry in enumerate(PAPERS):
            more = tuple(sorted(changed(PAPERS, at, changed(entry, 1, entry[1] + 1))))
            # What costs more than the way to it shows nothing; nothing leads to the cost of 40 but one.
            self.assert_order(False, more)
            if entry[1] > 0:
                for less in (-1, True, None, "3"):
                    self.assert_order(False, changed(PAPERS, at, changed(entry, 1, less)))

    def test_a_lower_cost(self):
        # A lesser cost is evidence as long as what comes of it is there, too.
        task = task_of(world_of(IDLE, ("narrow", (), (("id", "both", "cut", "", 5),))), (ADD, RELEASE, FILL), (1, 1, 1))
        answer = cheapest(task)
        self.assertEqual(answer[2], 5)
        self.assertIs(shows_cheapest(task, answer), True)
        at = [number for number, entry in enumerate(answer[3]) if entry[0] == (0, 2)][0]
        entry = answer[3][at]
        self.assertEqual(entry[1], 0)

    def test_another_mark(self):
        for at, entry in enumerate(PAPERS):
            marks = entry[2][0]
            # A mark more that is within another one changes nothing.
            low = tuple(sorted(marks + (changed(marks[0], 1, 100),)))
            self.assert_order(True, changed(PAPERS, at, (entry[0], entry[1], (low,))))
            # A mark with a number that is not in use is no mark of this moment.
            high = tuple(sorted(marks + (changed(marks[0], 1, 201),)))
            self.assert_order(False, changed(PAPERS, at, (entry[0], entry[1], (high,))))
            old = ("small", 200, "old", "none", (), "")
            self.assert_order(False, changed(PAPERS, at, (entry[0], entry[1], (tuple(sorted(marks + (old,))),))))

    def test_all_places_done(self):
        # Such an entry has to cost as much as is shown; where none is shown there is no such entry.
        whole = tuple(range(6))
        table = judged(SHORT_SHOP, SPAN, tuple(STEPS[place] for place in ANSWER[1]))[1][-1]
        for cost, good in ((39, False), (40, True), (41, True), (999, True)):
            self.assert_order(good, tuple(sorted(PAPERS + ((whole, cost, table),))))
        empty = ((),)
        task = task_of(world_of(IDLE), (ADD,))
        for cost in (0, 1):
            papers = (((), 0, ((START,),)), ((0,), cost, ((START,),)))
            self.assertIs(shows_cheapest(task, ("none", papers)), False)
        papers = (((), 0, empty), ((0,), 0, empty))
        self.assertIs(shows_cheapest(task, ("none", papers)), False)
        self.assertIs(shows_cheapest(task, ("order", (0,), 0, (((), 0, empty),))), True)

    def test_less_marks_than_can_be(self):
        # Fewer marks are within those of the first moment, but nothing may be wrong with them then.
        idle = ("narrow", (("id", "narrow", ()),), ())
        unread = task_of(world_of(idle, ("wide", (("id", "wide", ()),), ())), (ADD, RELEASE))
        self.assert_none(False, (((), 0, ((),)), ((0,), 0, ((),))), unread)
        self.assert_none(True, (((), 0, ((START,),)), ((0,), 0, ((START,),))), unread)
        # Where numbers are written anew all marks come back.
        self.assert_none(True, (((), 0, ((),)), ((0,), 0, ((),))))
        self.assert_none(True, (((), 0, ((START,),)), ((0,), 0, ((START,),))))
        low = changed(START, 1, 1)
        self.assert_none(True, (((), 0, ((low,),)), ((0,), 0, ((low,),))))
        # The table of the last one has to be within that of the step.
        self.assert_none(True, (((), 0, ((START,),)), ((0,), 0, ((low,),))))
        self.assert_none(True, (((), 0, ((low,),)), ((0,), 0, ((START,),))))

    def test_a_beginning_is_needed(self):
        self.assert_none(False, ())
        self.assert_none(False, NONE[1:])
        self.assert_none(False, ((NONE[0][0], 1, NONE[0][2]),) + NONE[1:])
        wide = (((), 0, ((START, ("small", 200, "old", "none", (), "")),)),) + NONE[1:]
        self.assert_none(False, (changed(wide[0], 2, (tuple(sorted(wide[0][2][0])),)),) + NONE[1:])


class FollowedTest(PapersCase):
    def test_steps_that_are_not_possible(self):
        task = task_of(SHORT_SHOP, (UP,))
        self.assertIs(shows_cheapest(task, ("none", (((), 0, ((START,),)),))), True)

    def test_steps_that_are_wrong(self):
        task = task_of(SHORT_SHOP, (RELEASE,))
        self.assertIs(shows_cheapest(task, ("none", (((), 0, ((START,),)),))), True)
        # Without marks the new cells alone can go wrong; the elder edition makes some.
        self.assertIs(shows_cheapest(task, ("none", (((), 0, ((),)),))), True)

    def test_a_wrong_first_moment_needs_nothing_more(self):
        world = world_of(("wide", (), (("id", "narrow", "refuse", "", 1),)))
        task = (world, (1, 300), (ADD, UP), (1, 1))
        small = ("small", 255, "same", "none", (), "")
        for papers, good in (
            ((((), 0, ((),)),), True),
            ((((), 0, ((small,),)),), True),
            ((((), 0, ((small,),)), ((0,), 0, ((),))), True),
            ((((), 1, ((small,),)),), False),
            ((), False),
            ((((0,), 0, ((small,),)),), False),
            ((((), 0, ((changed(small, 1, 256),),)),), False),
        ):
            self.assertIs(shows_cheapest(task, ("none", papers)), good, papers)
        self.assertIs(shows_cheapest(task, ("order", (0, 1), 0, (((), 0, ((),)),))), False)

    def test_a_first_moment_that_is_wrong_alone(self):
        # The purge would leave a window in which no two numbers have one cut.
        matcher = ("wide", (("id", "narrow", ("match",)),), (("id", "narrow", "cut", "", 1),))
        task = (world_of(matcher), (100, 360), (("purge", 120),), (1,))
        self.assertEqual(cheapest(task)[0], "none")
        self.assertIs(shows_cheapest(task, cheapest(task)), True)
        self.assertIs(shows_cheapest(task, ("none", (((), 0, ((),)),))), True)
        self.assertIs(shows_cheapest(task, ("none", (((), 1, ((),)),))), False)

    def test_papers_for_a_lower_cost_or_for_none(self):
        # The papers for a cost show nothing of a greater one, and nothing of none.
        self.assertIs(shows_cheapest(TASK, ("none", PAPERS)), False)
        free = task_of(SHORT_SHOP, (ADD, UP), (0, 1))
        self.assertEqual(cheapest(free)[2], 3)
        papers = cheapest(free)[3]
        self.assertEqual([entry[0] for entry in papers], [(), (0,)])
        self.assertIs(shows_cheapest(free, ("none", papers)), False)

    def test_what_costs_as_much_needs_no_entry(self):
        free = task_of(SHORT_SHOP, (ADD, UP, FILL), (0, 1, 1))
        answer = cheapest(free)
        self.assertEqual((answer[2], [entry[1] for entry in answer[3]]), (3, [0, 0, 0]))
        more = tuple(sorted(answer[3] + (((0, 1), 3, judged(SHORT_SHOP, SPAN, (ADD, UP))[1][-1]),)))
        self.assertIs(shows_cheapest(free, changed(answer, 3, more)), True)


def second_look(task, value, cost):
    """Whether papers are right, by the words of section 11 and the second look at marks; None is no cost."""
    world, span, steps, durations = task

    def plan_of(done):
        for order in permutations(done):
            try:
                plan = tuple(steps[place] for place in order)
                moments(world, span, plan)
                return plan
            except BadPlan:
                pass
        return None

    def grown(holds, begins):
        marks = second.close(world, holds, begins)
        return marks, second.is_wrong(world, holds, marks)

    def sets(table):
        return {column: set(marks) for column, marks in zip(world.columns, table)}

    def are_in(table, marks):
        return all(any(second.is_in(mark, one) for one in marks[column]) for column in table for mark in table[column])

    (_, holds), = second.moments_of(world, span, ())
    first, _ = grown(holds, second.begin(world, holds, None, None))
    starts = [sets(table) for done, spent, table in value if (done, spent) == ((), 0)]
    starts = [table for table in starts if are_in(table, first)]
    if not starts:
        return False
    if any(grown(holds, table)[1] for table in starts):
        return True
    for done, spent, table in value:
        if len(done) == len(steps) and (cost is None or spent < cost):
            return False
        plan = plan_of(done)
        for place in set(range(len(steps))) - set(done):
            try:
                told = second.moments_of(world, span, plan + (steps[place],))[len(moments(world, span, plan)) :]
            except BadPlan:
                continue
            total = spent + durations[place] * paces_of(world, told[0][1])
            marks, wrong = sets(table), False
            for change, holds in told:
                if not wrong:
                    marks, wrong = grown(holds, second.begin(world, holds, change, marks))
            if wrong or (cost is not None and total >= cost):
                continue
            goal = tuple(sorted(done + (place,)))
            if not any(one == goal and less <= total and are_in(sets(other), marks) for one, less, other in value):
                return False
    return True


class SecondLookTest(PapersCase):
    def test_drawn_papers(self):
        told = {True: 0, False: 0}
        for seed in range(60):
            task = draw_task(seed)
            if task is None or len(task[2]) > 3:
                continue
            answer = cheapest(task)
            draw = random.Random(seed)
            for papers in self.variants(draw, answer[-1]):
                good = second_look(task, papers, answer[2] if answer[0] == "order" else None)
                told[good] += 1
                self.assertIs(shows_cheapest(task, answer[:-1] + (papers,)), good, (seed, papers))
        self.assertGreater(min(told.values()), 15)

    def variants(self, draw, papers):
        yield papers
        for at, entry in enumerate(papers):
            yield without(papers, at)
            yield tuple(sorted(set(changed(papers, at, changed(entry, 1, entry[1] + draw.choice([1, 2]))))))
            if entry[1] > 0:
                yield tuple(sorted(set(changed(papers, at, changed(entry, 1, entry[1] - 1)))))
            for column, marks in enumerate(entry[2]):
                for number in range(len(marks)):
                    table = changed(entry[2], column, without(marks, number))
                    yield tuple(sorted(set(changed(papers, at, changed(entry, 2, table)))))


if __name__ == "__main__":
    unittest.main()
