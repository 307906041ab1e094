"""Which values show that a plan is safe."""

import random
import unittest

from drawn import draw_safe_plan, draw_span, draw_world
from widerkeys.errors import BadPlan, BadSpan
from widerkeys.judging import judged, shows_safe
from widerkeys.worlds import World

from players import ADD, ANEW, BYTE, FILL, NO_DOWN, RELEASE, SHOP, SHORT, world_of
from samples import NO_SPANS, nested

SPAN = (1, 200)
DOWN = ("down", "id", "refuse")
IDLE = ("wide", (), ())
LATE = ("wide", (), (("id", "narrow first", "cut", "", 1), ("ref", "both", "cut", "", 1)))

# Edition 1 of shop writes id in two events, edition 2 does not write.
WORLD = World(BYTE, SHORT, ("id", "ref"), (("shop", (IDLE, LATE, IDLE)),))
ADDS = (ADD, ("add", "ref"))

OTHERS = (True, False, None, 0, "", "safe", (), [], {}, {1: ()}, nested(20), BYTE, SHOP)


def tables_of(world, plan, span=SPAN):
    word, tables = judged(world, span, plan)
    assert word == "safe"
    return tables


def changed(items, index, value):
    return items[:index] + (value,) + items[index + 1 :]


class ShowsCase(unittest.TestCase):
    world = SHOP
    plan = ()
    span = SPAN

    def assert_shows(self, good, value):
        self.assertIs(shows_safe(self.world, self.span, self.plan, value), good, value)

    def with_marks(self, tables, at, column, marks):
        """The tables with other marks of a column in a moment."""
        return changed(tables, at, changed(tables[at], column, tuple(sorted(marks))))


class FormTest(ShowsCase):
    plan = (ADD, RELEASE)

    def test_other_values(self):
        tables = tables_of(self.world, self.plan)
        self.assert_shows(True, tables)
        for other in OTHERS + (list(tables), tables[:-1], tables + tables[-1:], (tables,)):
            self.assert_shows(False, other)
        for at in range(len(tables)):
            for other in OTHERS + (list(tables[at]), tables[at] * 2, tables[at][0], (list(tables[at][0]),)):
                self.assert_shows(False, changed(tables, at, other))
            for other in OTHERS[:3] + OTHERS[3:6] + (["x"], ("x",), (("small",),), (nested(5),), (None,)):
                self.assert_shows(False, changed(tables, at, (other,)))

    def test_marks_that_are_none(self):
        tables = tables_of(self.world, self.plan)
        for at, other in ((0, "tiny"), (1, True), (1, "200"), (2, "far"), (3, ""), (4, []), (4, ("x",)), (5, None)):
            mark = changed(tables[0][0][0], at, other)
            self.assert_shows(False, changed(tables, 0, ((mark,),)))

    def test_they_ascend(self):
        tables = tables_of(self.world, self.plan)
        marks = tables[2][0]
        self.assertGreater(len(marks), 1)
        self.assert_shows(False, changed(tables, 2, (marks[::-1],)))
        self.assert_shows(False, changed(tables, 2, (marks[:1] + marks,)))

    def test_errors(self):
        for span in NO_SPANS:
            with self.assertRaises(BadSpan) as caught:
                shows_safe(SHOP, span, None, ())
            self.assertEqual(caught.exception.value, span)
        for plan, index in ((None, None), ((ADD, ADD), 1), ([ADD], None), ((ADD,) * 15, None), ((True,), 0)):
            with self.assertRaises(BadPlan) as caught:
                shows_safe(SHOP, SPAN, plan, None)
            self.assertEqual(caught.exception.index, index)

    def test_arguments_by_name(self):
        self.assertIs(shows_safe(value=tables_of(SHOP, self.plan), plan=self.plan, span=SPAN, world=SHOP), True)


class ClosedTest(ShowsCase):
    plan = (ADD, RELEASE, ANEW)

    def test_a_mark_left_out(self):
        tables = tables_of(self.world, self.plan)
        for at, table in enumerate(tables):
            for mark in table[0]:
                self.assert_shows(False, self.with_marks(tables, at, 0, [one for one in table[0] if one != mark]))

    def test_a_lower_top(self):
        tables = tables_of(self.world, self.plan)
        for at, table in enumerate(tables):
            for mark in table[0]:
                marks = [one for one in table[0] if one != mark] + [changed(mark, 1, 199)]
                self.assert_shows(False, self.with_marks(tables, at, 0, marks))

    def test_a_lesser_mark_more(self):
        # It is within another one, so it leads to nothing more.
        tables = tables_of(self.world, self.plan)
        for at, table in enumerate(tables):
            for mark in table[0]:
                for top in (1, 199):
                    self.assert_shows(True, self.with_marks(tables, at, 0, [*table[0], changed(mark, 1, top)]))

    def test_a_greater_top(self):
        # It is not in use.
        tables = tables_of(self.world, self.plan)
        for at, table in enumerate(tables):
            self.assert_shows(False, self.with_marks(tables, at, 0, [*table[0], changed(table[0][0], 1, 201)]))

    def test_a_greater_mark_with_all_that_comes_of_it(self):
        # "old" in the wide side comes of the release alone, but nothing is wrong with it ahead of it.
        tables = tables_of(self.world, self.plan)
        old = ("small", 200, "same", "old", (), "")
        more = self.with_marks(tables, 1, 0, [*tables[1][0], old])
        self.assertNotIn(old, tables[1][0])
        self.assert_shows(True, more)
        # Each moment has to have the marks with which it begins.
        plan = (ADD, FILL)
        more = self.with_marks(tables_of(SHOP, plan), 1, 0, [*tables[1][0], ("small", 200, "old", "none", (), "")])
        self.assertIs(shows_safe(SHOP, SPAN, plan, more), False)

    def test_something_wrong(self):
        tables = tables_of(self.world, self.plan)
        self.assert_shows(False, self.with_marks(tables, 3, 0, [*tables[3][0], ("small", 200, "old", "same", (), "")]))

    def test_a_plan_that_is_not_safe(self):
        plan = (ADD, RELEASE, RELEASE)
        tables = tables_of(SHOP, plan[:2])
        for last in tables:
            self.assertIs(shows_safe(SHOP, SPAN, plan, tables + (last, last)), False)

    def test_a_missing_side(self):
        plan = (ADD, ANEW, ("drop", "id", "narrow"))
        tables = tables_of(SHOP, plan[:2])
        dropped = (("small", 200, "none", "same", (), ""),)
        self.assertIs(shows_safe(SHOP, SPAN, plan, tables + ((dropped,),)), False)
        self.assertIs(shows_safe(world_of(IDLE), SPAN, plan, tables + ((dropped,),)), False)
        tables = tables_of(world_of(IDLE), plan)
        self.assertIs(shows_safe(world_of(IDLE), SPAN, plan, tables), True)
        self.assertIs(shows_safe(SHOP, SPAN, plan, tables), False)

    def test_the_marks_of_the_first_moment(self):
        self.assertIs(shows_safe(world_of(IDLE), SPAN, (), (((),),)), False)
        self.assertIs(shows_safe(world_of(IDLE), SPAN, (), ((("small", 200, "same", "none", (), ""),),)), False)
        self.assertIs(shows_safe(world_of(IDLE), SPAN, (), (((("small", 200, "same", "none", (), ""),),),)), True)
        self.assertIs(shows_safe(world_of(IDLE), (256, 300), (), (((),),)), True)


class CanBeTest(ShowsCase):
    """Marks that cannot be in a moment are in no table of it, whether anything comes of them or not."""

    world = WORLD
    span = (1, 400)
    plan = ADDS + (RELEASE, FILL, ("purge", 20), ("drop", "ref", "narrow"))

    def assert_may_be(self, good, at, column, mark):
        # The widest table of this moment: all else that comes of the mark does not matter here.
        from widerkeys.scenes import Scene
        from widerkeys.steps import moments
        from widerkeys.tables import is_table

        scene = Scene(self.world, moments(self.world, self.span, self.plan)[at])
        table = ((mark,), ()) if column == 0 else ((), (mark,))
        self.assertIs(is_table(scene, table), good, mark)

    def test_visits(self):
        mark = ("small", 200, "same", "same", (), "")
        for at, column, visits in ((0, 0, ("",)), (3, 0, ("",)), (5, 0, ("ahead", "seen")), (5, 1, ("",)), (6, 0, ("",))):
            for visit in ("", "ahead", "seen"):
                sides = ("same", "none") if at == 0 else ("same", "same")
                told = (*mark[:2], *sides, (), visit)
                self.assert_may_be(visit in visits, at, column, told)

    def test_sides_that_are_not_there(self):
        for at, column, narrow, wide, good in (
            (0, 0, "same", "none", True),
            (0, 0, "same", "old", False),
            (1, 1, "same", "same", False),
            (2, 1, "same", "same", True),
            (7, 1, "none", "same", False),
            (8, 1, "none", "same", True),
            (8, 1, "same", "same", False),
            (8, 1, "none", "none", True),
            (8, 0, "same", "same", True),
        ):
            good = good or (at, column, narrow) == (7, 1, "none")
            self.assert_may_be(good, at, column, ("small", 200, narrow, wide, (), ""))

    def test_late_ones(self):
        late = lambda number, word="same": (("shop", number, word),)
        mark = ("small", 200, "same", "same", (), "")
        for at, column, told, good in (
            (2, 0, late(1), False),
            (3, 0, late(1), True),
            (4, 0, late(1), True),
            (4, 0, late(1, "far"), True),
            (4, 0, late(0), False),
            (4, 0, late(2), False),
            (4, 1, late(1), False),
        ):
            self.assert_may_be(good, at, column, changed(mark, 4, told))

    def test_numbers(self):
        for at, meant, top, good in (
            (4, "small", 1, True),
            (4, "small", 0, False),
            (4, "small", 255, True),
            (4, "great", 256, True),
            (4, "great", 400, True),
            (4, "great", 401, False),
            (7, "small", 20, True),
            (7, "small", 19, False),
        ):
            narrow = "same" if meant == "small" else "none"
            self.assert_may_be(good, at, 0, (meant, top, narrow, "same", (), ""))


class DrawnTest(ShowsCase):
    def test_tables_that_are_changed(self):
        kinds = {True: 0, False: 0}
        for seed in range(60):
            draw = random.Random(seed)
            world = draw_world(draw, deeds=0.1, reads=0.3, rules=("cut", "empty"))
            span = draw_span(draw, world)
            plan = draw_safe_plan(draw, world, span, draw.randint(1, 4))
            word, tables = judged(world, span, plan)
            if word == "wrong":
                continue
            for at, table in enumerate(tables):
                for column, marks in enumerate(table):
                    for mark in marks:
                        less = [one for one in marks if one != mark]
                        # What is left of the greatest marks of the least table is not closed, or lacks a begin.
                        self.assertIs(shows_safe(world, span, plan, self.with_marks(tables, at, column, less)), False)
                        low = changed(mark, 1, mark[1] - 1)
                        lower = self.with_marks(tables, at, column, less + [low])
                        self.assertIs(shows_safe(world, span, plan, lower), False)
                        more = self.with_marks(tables, at, column, [*marks, low])
                        kinds[shows_safe(world, span, plan, more)] += 1
        self.assertGreater(kinds[True], 100)


if __name__ == "__main__":
    unittest.main()
