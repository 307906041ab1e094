"""When each event can happen, and which values are none."""

import unittest

from widerkeys.errors import BadPlan, BadSpan
from widerkeys.events import is_event
from widerkeys.runs import shows_wrong
from widerkeys.worlds import World

from players import (
    ADD,
    ANEW,
    BYTE,
    DEEDS,
    DOUBLE,
    DROP_NARROW,
    ELDER,
    FILL,

    RELEASE,
    SHOP,
    SHORT,
    UP,
    WITHDRAW,
    begin,
    copier,
    late_of,
    play_on,
    stock_of,
    word_of,
    world_of,
)
from samples import nested

BACK = ("fill back", "id", "anew", "cut")
SPAN = (1, 300)

# Edition 0 sets id and copies it to ref; edition 1 the other way about, in two events.
LATE = (
    "wide",
    (("id", "either", DEEDS), ("ref", "either", ("match",))),
    (("id", "narrow first", "cut", "ref", 1), ("ref", "wide first", "cut", "", 1)),
)
TWO = world_of(copier("narrow"), LATE, columns=("id", "ref"))


def cells(*numbers, column="id"):
    """The events of the cells that are there from the beginning, rows 0, 1, .."""
    return tuple([("there", column, row, number) for row, number in enumerate(numbers)])


class EventCase(unittest.TestCase):
    def assert_word(self, word, run, world=TWO, span=SPAN):
        self.assertEqual(word_of(world, span, run), word, run[-1])

    def assert_fine(self, run, *events, world=TWO, span=SPAN):
        for event in events:
            self.assert_word("", run + (event,), world, span)

    def assert_never(self, run, *events, world=TWO, span=SPAN):
        """These events cannot happen behind a run."""
        for event in events:
            self.assert_word(None, run + (event,), world, span)


class ThereTest(EventCase):
    def test_small_numbers_in_use(self):
        self.assert_fine((), ("there", "id", 0, 1), ("there", "ref", 7, 255), ("there", "id", 10 ** 9, 100))
        self.assert_never((), ("there", "id", 0, 0), ("there", "id", 0, 256), ("there", "id", 0, -1))
        self.assert_never((), ("there", "id", 0, 201), ("there", "id", 0, 0), span=(1, 200))
        self.assert_fine((), ("there", "id", 0, 200), span=(1, 200))
        self.assert_never((), ("there", "id", 0, 256), ("there", "id", 0, 300), ("there", "id", 0, 1), span=(256, 300))

    def test_cells_not_told_yet(self):
        run = cells(5)
        self.assert_never(run, ("there", "id", 0, 5), ("there", "id", 0, 6))
        self.assert_fine(run, ("there", "id", 1, 5), ("there", "ref", 0, 5))

    def test_ahead_of_all_others(self):
        for event in (("begin", ADD), ("set", "shop", 0, "id", 1, 9), ("read", "shop", 0, "id", 0)):
            self.assert_never(cells(5) + (event,), ("there", "id", 2, 5))
            self.assert_never(cells(5) + (event, event)[:1], ("there", "ref", 0, 5))

    def test_what_cannot_happen_is_no_event(self):
        run = (("visit", 0), ("begin", UP), ("read", "shop", 0, "id", 0), ("there", "id", 0, 5))
        self.assertEqual(play_on(TWO, SPAN, run)[1], [None, None, None, ""])

    def test_what_stands_in_it(self):
        self.assertEqual(stock_of(TWO, SPAN, cells(5, 6)), {("id", 0): (5, 5, None), ("id", 1): (6, 6, None)})


class StepEventsTest(EventCase):
    def test_steps_that_are_not_long(self):
        self.assert_fine((), ("begin", ADD))
        self.assert_never((), ("end", ADD), ("end", RELEASE))
        self.assert_never(begin(ADD), ("end", ADD), ("begin", ADD))
        self.assert_never((), ("begin", FILL), ("begin", WITHDRAW), ("begin", ("grow", 299)))

    def test_nothing_begins_amid_a_long_step(self):
        for step in (RELEASE, FILL, BACK):
            run = begin(ADD, ("add", "ref")) + (("begin", step),)
            self.assert_never(run, ("begin", UP), ("begin", step), ("begin", ("grow", 400)))
            self.assert_never(run, ("end", ADD), ("end", UP), ("end", ANEW))
            self.assert_fine(run, ("end", step))
            self.assert_never(run + (("end", step),), ("end", step))
            self.assert_fine(run + (("end", step),), ("begin", UP))

    def test_the_next_step_of_the_plan(self):
        wrong = ("set", "shop", 0, "id", 0, 300)
        world = world_of(("wide", (), (("id", "narrow", "refuse", "", 1),)))
        plan = (ADD, UP, ("no up", "id"), ("grow", 400))
        for run, good in (
            ((), True),
            (begin(ADD), True),
            (begin(ADD, UP), True),
            (begin(*plan), True),
            (begin(UP), False),
            (begin(ADD, ("down", "id", "cut")), False),
            (begin(ADD, ("grow", 400)), False),
            (begin(ADD, ADD), False),
            (begin(*plan, UP), False),
            (begin(*plan, ("grow", 401)), False),
        ):
            self.assertIs(shows_wrong(world, SPAN, plan, run + (wrong,)), good, run)
            self.assertFalse(shows_wrong(world, SPAN, plan, run))

    def test_a_fill_ends_when_all_its_cells_were_visited(self):
        for step in (FILL, ANEW, BACK):
            run = cells(5, 6) + cells(7, column="ref") + begin(ADD) + (("begin", step),)
            zero, one, end = ("visit", 0), ("visit", 1), ("end", step)
            for visits in ((), (zero,), (one,), (zero, zero), (one, one)):
                self.assert_never(run + visits, end)
            for visits in ((zero, one), (one, zero), (zero, one, zero), (zero, zero, one)):
                self.assert_fine(run + visits, end)

    def test_cells_that_come_amid_a_fill_need_no_visit(self):
        run = cells(5) + begin(ADD) + (("begin", FILL), ("set", "shop", 0, "id", 3, 9))
        self.assert_never(run, ("end", FILL))
        self.assert_fine(run + (("visit", 0),), ("end", FILL))
        self.assert_never(run + (("visit", 3),), ("end", FILL))
        # Nor does an earlier fill's visit count.
        again = run + (("visit", 0), ("end", FILL), ("begin", FILL), ("visit", 0))
        self.assert_never(again, ("end", FILL))
        self.assert_fine(again + (("visit", 3),), ("end", FILL))

    def test_a_set_amid_a_fill_is_no_visit(self):
        run = cells(5) + begin(ADD) + (("begin", FILL), ("set", "shop", 0, "id", 0, 9))
        self.assert_never(run, ("end", FILL))

    def test_a_program_called_as_a_column(self):
        world = world_of(("wide", (), ()), ("wide", (), ()), columns=("id", "shop"))
        run = cells(5, column="shop") + begin(ADD, ("add", "shop"), ("up", "shop")) + (("begin", RELEASE),)
        self.assert_fine(run, ("end", RELEASE), world=world)

    def test_no_fill_without_cells(self):
        self.assert_fine(cells(7, column="ref") + begin(ADD) + (("begin", FILL),), ("end", FILL))


class SetTest(EventCase):
    def test_editions_that_run(self):
        def set_by(number):
            return ("set", "shop", number, "id", 0, 9)

        amid = begin(ADD) + (("begin", RELEASE),)
        after = amid + (("end", RELEASE),)
        self.assert_fine(begin(ADD), set_by(0), world=SHOP)
        self.assert_never(begin(ADD), set_by(1), set_by(2), world=SHOP)
        self.assert_fine(amid, set_by(0), set_by(1), world=SHOP)
        self.assert_never(amid, set_by(2), world=SHOP)
        self.assert_fine(after, set_by(1), world=SHOP)
        self.assert_never(after, set_by(0), set_by(2), world=SHOP)
        self.assert_fine(after + (("begin", WITHDRAW),), set_by(0), set_by(1), world=SHOP)
        self.assert_never(after + begin(WITHDRAW), set_by(1), world=SHOP)
        self.assert_fine(after + begin(WITHDRAW), set_by(0), world=SHOP)

    def test_columns_that_it_writes_without_a_source(self):
        self.assert_fine((), ("set", "shop", 0, "id", 0, 9))
        self.assert_never((), ("set", "shop", 0, "ref", 0, 9))
        reader = world_of(("wide", (("id", "narrow", ()),), ()))
        self.assert_never((), ("set", "shop", 0, "id", 0, 9), world=reader)

    def test_numbers_in_use(self):
        def set_to(number):
            return ("set", "shop", 0, "id", 0, number)

        self.assert_fine((), set_to(1), set_to(255), set_to(256), set_to(300))
        self.assert_never((), set_to(0), set_to(301), set_to(-1), set_to(10 ** 17))
        self.assert_never(begin(("grow", 400), ("purge", 50)), set_to(49), set_to(401), set_to(1))
        self.assert_fine(begin(("grow", 400), ("purge", 50)), set_to(50), set_to(400), set_to(301))

    def test_great_numbers_need_a_wide_sight(self):
        narrow = world_of(copier("narrow", sight="narrow"), columns=("id", "ref"))
        self.assert_fine((), ("set", "shop", 0, "id", 0, 255), world=narrow)
        self.assert_never((), ("set", "shop", 0, "id", 0, 256), ("set", "shop", 0, "id", 0, 300), world=narrow)

    def test_what_is_meant(self):
        run = cells(5) + (("set", "shop", 0, "id", 0, 9), ("set", "shop", 0, "id", 4, 300))
        self.assertEqual(stock_of(TWO, SPAN, run), {("id", 0): (9, 9, None), ("id", 4): (300, 44, None)})

    def test_programs_are_apart(self):
        programs = (("bank", (ELDER, DOUBLE)), ("shop", (ELDER, DOUBLE)))
        world = World(BYTE, SHORT, ("id",), programs)
        run = begin(ADD, ("release", "bank"))
        self.assert_fine(run, ("set", "bank", 1, "id", 0, 9), ("set", "shop", 0, "id", 0, 9), world=world)
        self.assert_never(run, ("set", "bank", 0, "id", 0, 9), ("set", "shop", 1, "id", 0, 9), world=world)


class CopyTest(EventCase):
    def test_what_is_there(self):
        self.assert_never((), ("copy", "shop", 0, "ref", 0, 0))
        run = cells(5)
        self.assert_fine(run, ("copy", "shop", 0, "ref", 0, 0), ("copy", "shop", 0, "ref", 9, 0))
        self.assert_never(run, ("copy", "shop", 0, "ref", 0, 1), ("copy", "shop", 0, "ref", 0, 9))
        # The cells of the column itself are no sources.
        self.assert_never(cells(5, column="ref"), ("copy", "shop", 0, "ref", 1, 0))

    def test_columns_with_a_source(self):
        both = cells(5) + cells(6, column="ref")
        self.assert_never(both, ("copy", "shop", 0, "id", 0, 0))
        reader = world_of(("wide", (("id", "narrow", ()),), ()), columns=("id", "ref"))
        self.assert_never(both, ("copy", "shop", 0, "ref", 0, 0), world=reader)
        self.assert_fine(both, ("copy", "shop", 0, "ref", 0, 0))

    def test_editions_that_run(self):
        run = cells(5) + cells(6, column="ref") + begin(ADD, ("add", "ref"))
        self.assert_never(run, ("copy", "shop", 1, "id", 0, 0))
        run = run + begin(RELEASE)
        self.assert_fine(run, ("copy", "shop", 1, "id", 0, 0), ("copy", "shop", 1, "id", 5, 0))
        self.assert_never(run, ("copy", "shop", 0, "ref", 0, 0), ("copy", "shop", 1, "ref", 0, 0))

    def test_what_is_written_and_meant(self):
        run = cells(5) + cells(6, column="ref") + (("copy", "shop", 0, "ref", 0, 0), ("copy", "shop", 0, "ref", 3, 0))
        found = stock_of(TWO, SPAN, run)
        self.assertEqual(found, {("id", 0): (5, 5, None), ("ref", 0): (5, 5, None), ("ref", 3): (5, 5, None)})

    def test_what_is_held_cut(self):
        # 300 stands cut, as 44, in id; so 44 is held, and written for 300.
        run = (("set", "shop", 0, "id", 0, 300), ("copy", "shop", 0, "ref", 0, 0))
        self.assertEqual(stock_of(TWO, SPAN, run)[("ref", 0)], (300, 44, None))


class ComeTest(EventCase):
    RUN = cells(5) + begin(ADD, ("add", "ref"), RELEASE)

    def test_such_a_late_number(self):
        run = self.RUN + (("set", "shop", 1, "ref", 2, 9),)
        self.assertEqual(late_of(TWO, SPAN, run), {("ref", 2): [("shop", 1, 9)]})
        self.assert_fine(run, ("come", "shop", 1, "ref", 2, 9))
        self.assert_never(run, ("come", "shop", 1, "ref", 2, 8), ("come", "shop", 1, "ref", 1, 9))
        self.assert_never(run, ("come", "shop", 0, "ref", 2, 9), ("come", "shop", 1, "id", 2, 9))
        self.assert_never(self.RUN, ("come", "shop", 1, "ref", 2, 9), ("come", "shop", 1, "ref", 0, 5))

    def test_each_one_comes_once(self):
        one, come = ("set", "shop", 1, "ref", 2, 9), ("come", "shop", 1, "ref", 2, 9)
        self.assert_never(self.RUN + (one, come), come)
        self.assert_fine(self.RUN + (one, one, come), come)
        self.assert_never(self.RUN + (one, one, come, come), come)

    def test_in_any_sequence(self):
        sets = (("set", "shop", 1, "ref", 2, 9), ("set", "shop", 1, "ref", 2, 8))
        for number in (8, 9):
            self.assert_fine(self.RUN + sets, ("come", "shop", 1, "ref", 2, number))
        run = self.RUN + sets + (("come", "shop", 1, "ref", 2, 8), ("come", "shop", 1, "ref", 2, 9))
        self.assertEqual(stock_of(TWO, SPAN, run)[("ref", 2)], (8, 9, 8))
        self.assertEqual(late_of(TWO, SPAN, run), {})

    def test_a_copy_is_late_too(self):
        run = self.RUN + (("set", "shop", 1, "ref", 2, 9), ("copy", "shop", 1, "id", 0, 2))
        self.assertEqual(late_of(TWO, SPAN, run)[("id", 0)], [("shop", 1, 9)])
        self.assert_fine(run, ("come", "shop", 1, "id", 0, 9))

    def test_gone_with_the_end_of_its_edition(self):
        run = self.RUN + (("set", "shop", 1, "ref", 2, 9), ("begin", WITHDRAW))
        self.assert_fine(run, ("come", "shop", 1, "ref", 2, 9))
        run = run + (("end", WITHDRAW),)
        self.assertEqual(late_of(TWO, SPAN, run), {})
        self.assert_never(run, ("come", "shop", 1, "ref", 2, 9))
        self.assert_never(run + (("begin", RELEASE),), ("come", "shop", 1, "ref", 2, 9))

    def test_gone_with_the_end_of_a_release(self):
        world = world_of(copier("narrow"), LATE, LATE[:2] + ((),), columns=("id", "ref"))
        run = self.RUN + (("set", "shop", 1, "ref", 2, 9), ("begin", RELEASE))
        self.assert_fine(run, ("come", "shop", 1, "ref", 2, 9), world=world)
        self.assert_never(run + (("end", RELEASE),), ("come", "shop", 1, "ref", 2, 9), world=world)

    def test_late_ones_of_the_other_edition_stay(self):
        world = world_of(
            ("wide", (), ()),
            ("wide", (), (("id", "narrow first", "cut", "", 1),)),
            ("wide", (), (("id", "wide first", "cut", "", 1),)),
        )
        run = begin(ADD, RELEASE) + (("begin", RELEASE),)
        run = run + (("set", "shop", 1, "id", 0, 8), ("set", "shop", 2, "id", 0, 8), ("end", RELEASE))
        self.assertEqual(late_of(world, SPAN, run), {("id", 0): [("shop", 2, 8)]})
        self.assert_never(run, ("come", "shop", 1, "id", 0, 8), world=world)
        self.assert_fine(run, ("come", "shop", 2, "id", 0, 8), world=world)

    def test_late_ones_of_another_program_stay(self):
        plain, late = ("wide", (), ()), ("wide", (), (("id", "narrow first", "cut", "", 1),))
        world = World(BYTE, SHORT, ("id",), (("bank", (plain, late)), ("shop", (plain, late))))
        run = begin(ADD, RELEASE, ("release", "bank"))
        run = run + (("set", "shop", 1, "id", 0, 8), ("set", "bank", 1, "id", 0, 8)) + begin(WITHDRAW)
        self.assertEqual(late_of(world, SPAN, run), {("id", 0): [("bank", 1, 8)]})

    def test_late_below_the_purge_of_a_cell_that_stays(self):
        run = self.RUN + (("set", "shop", 1, "ref", 2, 9), ("set", "shop", 1, "ref", 2, 90))
        run = run + begin(("purge", 50))
        self.assertEqual(late_of(TWO, SPAN, run), {("ref", 2): [("shop", 1, 9), ("shop", 1, 90)]})
        self.assert_fine(run, ("come", "shop", 1, "ref", 2, 9))


class PurgeTest(EventCase):
    def test_cells_below_first_are_gone(self):
        run = cells(5, 49, 50, 51) + cells(7, 70, column="ref") + begin(("purge", 50))
        self.assertEqual(sorted(stock_of(TWO, SPAN, run)), [("id", 2), ("id", 3), ("ref", 1)])
        self.assert_never(run, ("read", "shop", 0, "id", 1), ("copy", "shop", 0, "ref", 0, 1))
        self.assert_fine(run, ("read", "shop", 0, "id", 2), ("copy", "shop", 0, "ref", 0, 2))

    def test_by_the_number_meant(self):
        # 300 stands as 44, and 44 is meant by the other one.
        run = (("set", "shop", 0, "id", 0, 300), ("set", "shop", 0, "id", 1, 44)) + begin(("purge", 50))
        self.assertEqual(sorted(stock_of(TWO, SPAN, run)), [("id", 0)])

    def test_their_late_numbers_are_gone(self):
        run = begin(ADD, ("add", "ref"), RELEASE) + (("set", "shop", 1, "ref", 2, 9), ("begin", ("purge", 50)))
        self.assertEqual(late_of(TWO, SPAN, run), {})
        self.assert_never(run, ("come", "shop", 1, "ref", 2, 9))
        self.assert_never(run + (("set", "shop", 1, "ref", 2, 90),), ("come", "shop", 1, "ref", 2, 9))

    def test_a_cell_comes_anew(self):
        run = cells(5) + begin(("purge", 50))
        run = run + (("set", "shop", 0, "id", 0, 60),)
        self.assertEqual(stock_of(TWO, SPAN, run), {("id", 0): (60, 60, None)})
        # Nothing of what stood there is left.
        run = cells(5) + begin(ADD) + (("begin", FILL), ("visit", 0), ("end", FILL)) + begin(("purge", 50))
        run = run + (("set", "shop", 0, "id", 0, 60),)
        self.assertEqual(stock_of(TWO, SPAN, run), {("id", 0): (60, 60, None)})


class VisitTest(EventCase):
    def test_amid_a_fill_of_its_column(self):
        run = cells(5) + cells(6, 7, column="ref") + begin(ADD, ("add", "ref"))
        self.assert_never(run, ("visit", 0))
        self.assert_never(run + (("begin", RELEASE),), ("visit", 0))
        for step in (FILL, BACK):
            amid = run + (("begin", step),)
            self.assert_fine(amid, ("visit", 0))
            self.assert_fine(amid + (("visit", 0),), ("visit", 0))
            self.assert_never(amid, ("visit", 1), ("visit", 2))
            self.assert_never(amid + (("visit", 0), ("end", step)), ("visit", 0))

    def test_cells_that_came_amid_it(self):
        run = begin(ADD) + (("begin", FILL), ("set", "shop", 0, "id", 4, 9))
        self.assert_fine(run, ("visit", 4))
        self.assertEqual(stock_of(TWO, SPAN, run + (("visit", 4),)), {("id", 4): (9, 9, 9)})


class ReadTest(EventCase):
    def test_editions_that_run_and_columns_that_they_read(self):
        self.assert_fine(cells(5), ("read", "shop", 0, "id", 0))
        self.assert_never(cells(5), ("read", "shop", 1, "id", 0), ("read", "shop", 0, "id", 1))
        self.assert_never(cells(5), ("read", "shop", 0, "ref", 0))
        writer = world_of(("wide", (), (("id", "narrow", "cut", "", 1),)))
        self.assert_never(cells(5), ("read", "shop", 0, "id", 0), world=writer)
        silent = world_of(("wide", (("id", "narrow", ()),), ()))
        self.assert_fine(cells(5), ("read", "shop", 0, "id", 0), world=silent)

    def test_both_editions_amid_a_release(self):
        run = cells(5) + begin(ADD, ("add", "ref")) + (("begin", RELEASE),)
        self.assert_fine(run, ("read", "shop", 0, "id", 0), ("read", "shop", 1, "id", 0))
        self.assert_never(run + (("end", RELEASE),), ("read", "shop", 0, "id", 0))

    def test_match_takes_two_cells_and_the_deed_of_both_columns(self):
        run = cells(5, 6) + cells(5, column="ref")
        self.assert_fine(run, ("match", "shop", 0, "id", 0, "id", 1), ("match", "shop", 0, "id", 0, "ref", 0))
        self.assert_fine(run, ("match", "shop", 0, "ref", 0, "id", 1))
        self.assert_never(run, ("match", "shop", 0, "id", 0, "id", 2), ("match", "shop", 0, "id", 2, "id", 0))
        self.assert_never(run, ("match", "shop", 1, "id", 0, "id", 1))
        for one, other in (((), ("match",)), (("match",), ()), (("order", "show"), ("match", "show"))):
            reads = (("id", "narrow", one), ("ref", "narrow", other))
            world = world_of(("wide", reads, ()), columns=("id", "ref"))
            self.assert_never(
                run, ("match", "shop", 0, "id", 0, "ref", 0), ("match", "shop", 0, "ref", 0, "id", 0), world=world
            )
        world = world_of(("wide", (("id", "narrow", ("match",)),), ()), columns=("id", "ref"))
        self.assert_never(run, ("match", "shop", 0, "id", 0, "ref", 0), world=world)
        self.assert_fine(run, ("match", "shop", 0, "id", 0, "id", 1), world=world)

    def test_order_takes_two_cells_of_a_column_with_the_deed(self):
        run = cells(5, 6)
        self.assert_fine(run, ("order", "shop", 0, "id", 0, 1), ("order", "shop", 0, "id", 1, 0))
        self.assert_never(run, ("order", "shop", 0, "id", 0, 2), ("order", "shop", 0, "id", 2, 0))
        self.assert_never(run, ("order", "shop", 1, "id", 0, 1), ("order", "shop", 0, "ref", 0, 1))
        world = world_of(("wide", (("id", "narrow", ("match", "show")),), ()))
        self.assert_never(run, ("order", "shop", 0, "id", 0, 1), world=world)


class FormTest(EventCase):
    NO_EVENTS = (
        True,
        False,
        None,
        0,
        "",
        "visit 0",
        (),
        ("visit",),
        ("visit", 0, 0),
        ("visit", True),
        ("visit", False),
        ("visit", -1),
        ("visit", "0"),
        ("visit", None),
        ("visit", (0,)),
        ("visit", [0]),
        ("visits", 0),
        (("visit", 0),),
        (0, "visit"),
        ("begin",),
        ("begin", "add id"),
        ("begin", "add", "id"),
        ("begin", ADD, ADD),
        ("begin", ()),
        ("begin", None),
        ("begin", list(ADD)),
        ("begin", ("add", "no")),
        ("begin", ("grow", True)),
        ("begin", ("begin", ADD)),
        ("end", ("visit", 0)),
        ("end", ("release", "bank")),
        ADD,
        RELEASE,
        ("there", "id", 0),
        ("there", "id", 0, 5, 5),
        ("there", "no", 0, 5),
        ("there", "id", True, 5),
        ("there", "id", -1, 5),
        ("there", "id", 0, True),
        ("there", "id", 0, "5"),
        ("there", ("id", 0), 5),
        ("there", 0, "id", 5),
        ("set", "shop", 0, "id", 0),
        ("set", "shop", 0, "id", 0, True),
        ("set", "shop", 0, "id", 0, None),
        ("set", "shop", True, "id", 0, 5),
        ("set", "shop", -1, "id", 0, 5),
        ("set", "shop", 3, "id", 0, 5),
        ("set", "shop", "0", "id", 0, 5),
        ("set", "bank", 0, "id", 0, 5),
        ("set", None, 0, "id", 0, 5),
        ("set", ["shop"], 0, "id", 0, 5),
        ("set", "shop", 0, {}, 0, 5),
        ("set", "shop", 0, "id", 0, 5, 5),
        ("copy", "shop", 0, "id", 0, -1),
        ("copy", "shop", 0, "id", 0, True),
        ("copy", "shop", 0, "id", 0, "id", 0),
        ("come", "shop", 3, "id", 0, 5),
        ("come", "shop", 0, "id", 0, False),
        ("read", "shop", 0, "id"),
        ("read", "shop", 0, "id", 0, 0),
        ("read", "shop", 0, "shop", 0),
        ("match", "shop", 0, "id", 0, "id", 0),
        ("match", "shop", 0, "id", 0, "id"),
        ("match", "shop", 0, "id", 0, 1),
        ("match", "shop", 0, "id", 0, "no", 1),
        ("match", "shop", 0, "id", 0, "id", -1),
        ("order", "shop", 0, "id", 0, 0),
        ("order", "shop", 0, "id", 0, "id", 1),
        ("order", "shop", 0, "id", 0, True),
        [],
        ["visit", 0],
        {},
        {"visit": 0},
        BYTE,
        SHOP,
        (BYTE, 0),
        ("visit", BYTE),
        nested(20),
        ("visit", nested(19)),
        ("begin", nested(19)),
    )

    def test_other_values(self):
        plan = (ADD, RELEASE, ("grow", 300))
        wrong = ("read", "shop", 1, "id", 5)
        for value in self.NO_EVENTS:
            self.assertFalse(is_event(SHOP, value), value)
            for run in ((value,), cells(5) + (value,), (value, wrong), begin(ADD) + (value, value)):
                self.assertIs(shows_wrong(SHOP, (1, 200), plan, run), False, run)

    def test_events(self):
        for value in (
            ("there", "id", 10 ** 17, -(10 ** 17)),
            ("begin", ("grow", -1)),
            ("end", ADD),
            ("set", "shop", 2, "id", 0, 10 ** 17),
            ("copy", "shop", 0, "id", 0, 0),
            ("come", "shop", 0, "id", 0, -5),
            ("visit", 0),
            ("read", "shop", 2, "id", 0),
            ("match", "shop", 0, "id", 0, "id", 1),
            ("order", "shop", 0, "id", 1, 0),
        ):
            self.assertTrue(is_event(SHOP, value), value)
        self.assertTrue(is_event(TWO, ("match", "shop", 0, "id", 0, "ref", 0)))

    def test_no_runs(self):
        run = begin(ADD) + (("begin", RELEASE), ("end", RELEASE))
        plan = (ADD, RELEASE)
        for value in (True, False, None, 0, "", "visit 0", (), [], {}, list(run), nested(20), BYTE, SHOP, ADD, run):
            self.assertIs(shows_wrong(SHOP, (1, 200), plan, value), False, value)


class ErrorsTest(unittest.TestCase):
    def test_wrong_spans_come_first(self):
        for span in (None, True, (), (1, 5), (5, 1), [1, 200], (True, 200), (-1, 200), (1, 70000), (1, 260)):
            for plan in ((), None, (ADD, ADD)):
                with self.assertRaises(BadSpan) as caught:
                    shows_wrong(SHOP, span, plan, ())
                self.assertEqual(caught.exception.value, span)

    def test_wrong_plans(self):
        for plan, index in (
            (None, None),
            ([ADD], None),
            ((ADD,) * 15, None),
            ((None,) * 15, None),
            ((UP,), 0),
            ((ADD, ADD), 1),
            ((ADD, None), 1),
            ((ADD, UP, True, None), 2),
            ((ADD, ("grow", 260)), 1),
        ):
            for value in ((), None, begin(ADD)):
                with self.assertRaises(BadPlan) as caught:
                    shows_wrong(SHOP, (1, 200), plan, value)
                self.assertEqual(caught.exception.index, index)

    def test_arguments_by_name(self):
        run = begin(ADD, DROP_NARROW)
        self.assertIs(shows_wrong(value=run, plan=(ADD, DROP_NARROW), span=(1, 200), world=SHOP), True)
        self.assertEqual(run, begin(ADD, DROP_NARROW))
        self.assertIs(shows_wrong(value=begin(ADD), plan=(ADD, DROP_NARROW), span=(1, 200), world=SHOP), False)


if __name__ == "__main__":
    unittest.main()
