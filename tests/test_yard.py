"""Yards: events that are done, looked at and taken back."""

import random
import unittest

import test_run_events
from drawn import draw_span, draw_step, draw_world, end_step, lead_on
from widerkeys.errors import BadEvent, BadSpan, NoCell, NothingToUndo, NotNow
from widerkeys.events import is_event
from widerkeys.kinds import Kind
from widerkeys.marks import is_mark
from widerkeys.setups import Setup
from widerkeys.steps import moments
from widerkeys.worlds import World
from widerkeys.yard import Yard

from players import (
    ADD,
    BYTE,
    DEEDS,
    DROP_NARROW,
    FILL,
    NO_UP,
    RELEASE,
    SHOP,
    SHORT,
    UP,
    WITHDRAW,
    begin,
    world_of,
)
from samples import NO_SPANS, nested

SPAN = (1, 400)
IDLE = ("wide", (), ())
FREE = ("wide", (("id", "narrow", DEEDS),), (("id", "narrow", "cut", "", 1),))
LATE = ("wide", (("id", "wide", DEEDS),), (("id", "narrow first", "refuse", "", 1),))
LATER = world_of(IDLE, LATE, IDLE)
OTHERS = (True, False, None, 0, "", "id", (), [], {}, {1: 2}, nested(20), BYTE, SHOP)


def yard_of(world, events, span=SPAN):
    yard = Yard(world, span)
    for event in events:
        yard.do(event)
    return yard


def told_of(yard):
    """All that a yard tells."""
    return (
        yard.events,
        yard.many,
        yard.wrongs,
        yard.moment,
        yard.cells,
        [(cell, yard[cell], yard.late(cell), yard.mark(cell)) for cell in yard.cells],
        yard.journal,
    )


class YardCase(unittest.TestCase):
    def assert_raises(self, error, name, value, call, *args):
        with self.assertRaises(error) as caught:
            call(*args)
        self.assertEqual(getattr(caught.exception, name), value)


class CreatedTest(YardCase):
    def test_spans(self):
        for span in NO_SPANS + ((1, 15), (1, 270), (-1, 200), (1, 65536)):
            self.assert_raises(BadSpan, "value", span, Yard, SHOP, span)
        self.assertEqual(Yard(span=(1, 200), world=SHOP).moment, moments(SHOP, (1, 200), ())[0])

    def test_nothing_is_there(self):
        yard = Yard(SHOP, SPAN)
        self.assertEqual((yard.events, yard.many, yard.wrongs, yard.cells), ((), 0, (), ()))
        self.assertNotIn(("id", 0), yard)

    def test_it_is_not_iterated_over(self):
        for use in (iter, list, lambda yard: [cell for cell in yard], lambda yard: (*yard,)):
            with self.assertRaises(TypeError):
                use(Yard(SHOP, SPAN))


class DoTest(YardCase):
    def test_what_is_no_event(self):
        yard = yard_of(SHOP, [("there", "id", 0, 5)])
        before = told_of(yard)
        for event in test_run_events.FormTest.NO_EVENTS + OTHERS:
            self.assertFalse(is_event(SHOP, event), event)
            with self.assertRaises(BadEvent) as caught:
                yard.do(event)
            self.assertIs(caught.exception.value, event)
        self.assertEqual(told_of(yard), before)

    def test_what_cannot_happen_now(self):
        yard = yard_of(SHOP, [("there", "id", 0, 5), ("begin", ADD)])
        before = told_of(yard)
        for event in (
            ("there", "id", 1, 5),
            ("there", "id", 0, 5),
            ("begin", ADD),
            ("begin", WITHDRAW),
            ("begin", ("grow", 400)),
            ("end", ADD),
            ("end", RELEASE),
            ("set", "shop", 0, "id", 0, 0),
            ("set", "shop", 0, "id", 0, 256),
            ("set", "shop", 1, "id", 0, 5),
            ("copy", "shop", 0, "id", 0, 0),
            ("come", "shop", 0, "id", 0, 5),
            ("visit", 0),
            ("read", "shop", 0, "id", 1),
            ("read", "shop", 1, "id", 0),
            ("match", "shop", 0, "id", 0, "id", 1),
            ("order", "shop", 0, "id", 0, 1),
        ):
            with self.assertRaises(NotNow) as caught:
                yard.do(event)
            self.assertEqual(caught.exception.event, event)
            self.assertEqual(told_of(yard), before)

    def test_answers(self):
        yard = Yard(world_of(FREE), SPAN)
        for number, event in ((0, ("there", "id", 0, 5)), (1, ("set", "shop", 0, "id", 1, 5)), (2, ("begin", ADD))):
            self.assertIs(yard.do(event), None)
        yard.do(("set", "shop", 0, "id", 2, 300))
        self.assertEqual(yard.do(("read", "shop", 0, "id", 0)), 5)
        self.assertEqual(yard.do(("read", "shop", 0, "id", 2)), 44)
        self.assertIs(yard.do(("match", "shop", 0, "id", 0, "id", 1)), True)
        self.assertIs(yard.do(("match", "shop", 0, "id", 0, "id", 2)), False)
        self.assertIs(yard.do(("order", "shop", 0, "id", 0, 2)), True)
        self.assertIs(yard.do(("order", "shop", 0, "id", 2, 0)), False)
        self.assertEqual(yard.wrongs, ((5, "show"),))

    def test_empty_sides(self):
        world = world_of(IDLE, ("wide", (("id", "wide", DEEDS),), ()))
        yard = yard_of(world, [("there", "id", 0, 5), ("there", "id", 1, 5), *begin(ADD, RELEASE)])
        self.assertIs(yard.do(("read", "shop", 1, "id", 0)), None)
        self.assertIs(yard.do(("match", "shop", 1, "id", 0, "id", 1)), False)
        self.assertIs(yard.do(("order", "shop", 1, "id", 0, 1)), False)
        self.assertEqual([word for _, word in yard.wrongs], ["none"] * 3)
        # One of both is empty.
        yard.do(("begin", FILL))
        yard.do(("visit", 0))
        self.assertIs(yard.do(("match", "shop", 1, "id", 0, "id", 1)), False)
        self.assertIs(yard.do(("match", "shop", 1, "id", 1, "id", 0)), False)
        self.assertIs(yard.do(("order", "shop", 1, "id", 1, 0)), False)

    def test_refused(self):
        yard = yard_of(world_of(("wide", (), (("id", "narrow", "refuse", "", 1),))), [("there", "id", 0, 5)])
        self.assertIs(yard.do(("set", "shop", 0, "id", 0, 300)), None)
        self.assertIs(yard.do(("set", "shop", 0, "id", 1, 300)), None)
        self.assertEqual(yard.wrongs, ((1, "refused"), (2, "refused")))
        self.assertEqual((yard.cells, yard["id", 0], yard.many), ((("id", 0),), (5, 5, None), 3))
        # It was an event all the same.
        self.assert_raises(NotNow, "event", ("there", "id", 2, 5), yard.do, ("there", "id", 2, 5))

    def test_a_refused_visit_is_none(self):
        back = ("fill back", "id", "anew", "refuse")
        world = world_of(IDLE, ("wide", (), (("id", "wide", "cut", "", 1),)))
        yard = yard_of(world, [*begin(ADD, RELEASE), ("set", "shop", 1, "id", 0, 300), ("begin", back), ("visit", 0)])
        self.assertEqual(yard.wrongs, ((5, "refused"),))
        self.assert_raises(NotNow, "event", ("end", back), yard.do, ("end", back))
        self.assertEqual(yard.mark(("id", 0))[5], "ahead")
        yard.do(("set", "shop", 1, "id", 0, 30))
        yard.do(("visit", 0))
        yard.do(("end", back))
        self.assertEqual(yard["id", 0], (30, 30, 30))

    def test_what_is_behind_a_wrong_event_goes_on(self):
        newer = ("wide", (("id", "wide", ("show",)),), (("id", "wide", "cut", "", 1),))
        yard = yard_of(world_of(FREE, newer), [("there", "id", 0, 5), ("begin", RELEASE)])
        self.assertEqual(yard.wrongs, ((1, "missing"),))
        yard.do(("end", RELEASE))
        self.assertEqual(yard.wrongs, ((1, "missing"), (2, "missing")))
        yard.do(("read", "shop", 1, "id", 0))
        yard.do(("begin", ADD))
        yard.do(("read", "shop", 1, "id", 0))
        yard.do(("set", "shop", 1, "id", 0, 300))
        self.assertEqual(yard.do(("read", "shop", 1, "id", 0)), 300)
        self.assertEqual(yard.wrongs, ((1, "missing"), (2, "missing"), (3, "none"), (5, "none")))
        yard.do(("begin", DROP_NARROW))
        self.assertEqual(yard["id", 0], (300, None, 300))

    def test_more_than_fourteen_steps(self):
        yard = yard_of(SHOP, begin(ADD, *(UP, NO_UP) * 20))
        self.assertEqual(yard.many, 41)

    def test_arguments_by_name(self):
        yard = Yard(SHOP, SPAN)
        yard.do(event=("there", "id", 0, 5))
        self.assertEqual((yard.late(cell=("id", 0)), yard.mark(cell=("id", 0))[0]), ((), "small"))


class CellTest(YardCase):
    def test_cells(self):
        world = world_of(IDLE, columns=("id", "ref"))
        yard = Yard(world, SPAN)
        for column, row in (("ref", 2), ("id", 10), ("ref", 0), ("id", 9)):
            yard.do(("there", column, row, 5))
        self.assertEqual(yard.cells, (("id", 9), ("id", 10), ("ref", 0), ("ref", 2)))
        for cell in yard.cells:
            self.assertIn(cell, yard)

    def test_what_is_no_cell_that_is_there(self):
        yard = yard_of(SHOP, [("there", "id", 0, 5)])
        cells = (("id", 1), ("id", -1), ("id", True), ("id", False), ("id", None), ("id", "0"), ("ref", 0), ("id",))
        cells += (("id", 0, 0), ["id", 0], (0, "id"), (("id", 0),), ("id", [0]), (["id"], 0), ({}, 0), "id0")
        for cell in cells + OTHERS:
            self.assertIs(cell in yard, False, cell)
            for call in (yard.late, yard.mark, lambda value: yard[value]):
                with self.assertRaises(NoCell) as caught:
                    call(cell)
                self.assertIs(caught.exception.value, cell)
        self.assertIs(("id", 0) in yard, True)

    def test_what_stands_there(self):
        yard = yard_of(LATER, [("there", "id", 0, 5), *begin(ADD, RELEASE)])
        self.assertEqual(yard["id", 0], (5, 5, None))
        yard.do(("set", "shop", 1, "id", 0, 9))
        self.assertEqual(yard[("id", 0)], (9, 9, None))
        yard.do(("come", "shop", 1, "id", 0, 9))
        self.assertEqual(yard["id", 0], (9, 9, 9))
        yard.do(("begin", DROP_NARROW))
        self.assertEqual(yard["id", 0], (9, None, 9))

    def test_told_by_an_assignment(self):
        yard = Yard(SHOP, SPAN)
        yard["id", 3] = 7
        yard[("id", 4)] = 8
        self.assertEqual(yard.events, (("there", "id", 3, 7), ("there", "id", 4, 8)))
        for cell in (("ref", 0), ("id", -1), ("id", True), ("id", "0"), ("id",), ["id", 0], None, (["id"], 0)) + OTHERS:
            for number in (5, None, 300):
                with self.assertRaises(NoCell) as caught:
                    yard[cell] = number
                self.assertIs(caught.exception.value, cell)
        for number in (True, None, "5", (), [5], 5.0):
            with self.assertRaises(BadEvent) as caught:
                yard["id", 5] = number
            self.assertEqual(caught.exception.value, ("there", "id", 5, number))
        for cell, number in ((("id", 3), 7), (("id", 5), 0), (("id", 5), 256), (("id", 5), 401)):
            with self.assertRaises(NotNow) as caught:
                yard[cell] = number
            self.assertEqual(caught.exception.event, ("there", *cell, number))
        yard.do(("begin", ADD))
        with self.assertRaises(NotNow):
            yard["id", 5] = 7
        self.assertEqual(yard.cells, (("id", 3), ("id", 4)))

    def test_late_numbers(self):
        yard = yard_of(LATER, begin(ADD, RELEASE))
        for number in (9, 7, 9, 200, 9):
            yard.do(("set", "shop", 1, "id", 0, number))
        late = lambda *numbers: tuple(("shop", 1, number) for number in numbers)
        self.assertEqual(yard.late(("id", 0)), late(7, 9, 9, 9, 200))
        yard.do(("come", "shop", 1, "id", 0, 9))
        self.assertEqual(yard.late(("id", 0)), late(7, 9, 9, 200))
        self.assertEqual(yard.mark(("id", 0)), ("small", 9, "same", "same", (("shop", 1, "old"), ("shop", 1, "same")), ""))
        yard.do(("set", "shop", 1, "id", 1, 7))
        self.assertEqual(yard.late(("id", 1)), late(7))
        yard.do(("begin", RELEASE))
        self.assertEqual(len(yard.late(("id", 0))), 4)
        yard.do(("end", RELEASE))
        self.assertEqual((yard.late(("id", 0)), yard.late(("id", 1))), ((), ()))

    def test_late_numbers_ascend(self):
        world = World(BYTE, SHORT, ("id",), (("a", (IDLE, LATE)), ("b", (IDLE, LATE))))
        yard = yard_of(world, begin(ADD, ("release", "b"), ("release", "a")))
        for program, number in (("b", 3), ("a", 9), ("b", 1), ("a", 10), ("a", 9)):
            yard.do(("set", program, 1, "id", 0, number))
        self.assertEqual(yard.late(("id", 0)), (("a", 1, 9), ("a", 1, 9), ("a", 1, 10), ("b", 1, 1), ("b", 1, 3)))

    def test_cells_behind_a_purge(self):
        world = world_of(("wide", (), (("id", "narrow", "cut", "", 1),)), LATE)
        yard = yard_of(world, [("there", "id", 0, 5), ("there", "id", 1, 20), *begin(ADD, RELEASE)])
        for row, number in ((2, 19), (3, 20), (1, 19)):
            yard.do(("set", "shop", 1, "id", row, number))
        yard.do(("begin", ("purge", 20)))
        self.assertEqual(yard.cells, (("id", 3),))
        for row in (0, 1, 2):
            self.assert_raises(NoCell, "value", ("id", row), yard.late, ("id", row))
        # A cell that comes anew has nothing of the elder one.
        yard.do(("set", "shop", 1, "id", 2, 30))
        self.assertEqual((yard["id", 2], yard.late(("id", 2))), ((30, 30, None), (("shop", 1, 30),)))
        self.assert_raises(NotNow, "event", ("come", "shop", 1, "id", 2, 19), yard.do, ("come", "shop", 1, "id", 2, 19))


class MarkTest(YardCase):
    def test_by_the_numbers(self):
        writer = ("wide", (), (("id", "narrow first", "cut", "", 1),))
        world = world_of(IDLE, writer, ("wide", (), (("id", "wide first", "cut", "", 1),)), narrow=BYTE)
        yard = yard_of(world, [("there", "id", 0, 5), *begin(ADD, RELEASE)])
        late = lambda *words: tuple(("shop", 1, word) for word in words)
        self.assertEqual(yard.mark(("id", 0)), ("small", 5, "same", "none", (), ""))
        yard.do(("set", "shop", 1, "id", 0, 300))
        self.assertEqual(yard.mark(("id", 0)), ("great", 300, "cut", "none", late("same"), ""))
        yard.do(("come", "shop", 1, "id", 0, 300))
        self.assertEqual(yard.mark(("id", 0)), ("great", 300, "cut", "same", (), ""))
        yard.do(("set", "shop", 1, "id", 0, 301))
        self.assertEqual(yard.mark(("id", 0)), ("great", 301, "cut", "far", late("same"), ""))
        yard.do(("set", "shop", 1, "id", 0, 44))
        self.assertEqual(yard.mark(("id", 0)), ("small", 44, "same", "far", late("far", "same"), ""))
        # 300 is cut to 44, so what stands there is no old number.
        yard.do(("come", "shop", 1, "id", 0, 44))
        yard.do(("set", "shop", 1, "id", 0, 300))
        self.assertEqual(yard.mark(("id", 0)), ("great", 300, "cut", "cut", late("far", "same"), ""))
        yard.do(("set", "shop", 1, "id", 0, 302))
        self.assertEqual(yard.mark(("id", 0)), ("great", 302, "cut", "old", late("far", "same"), ""))

    def test_late_words_each_once(self):
        yard = yard_of(LATER, begin(ADD, RELEASE))
        for number in (9, 7, 9, 8):
            yard.do(("set", "shop", 1, "id", 0, number))
        self.assertEqual(yard.mark(("id", 0))[4], (("shop", 1, "old"), ("shop", 1, "same")))

    def test_visits(self):
        world = world_of(FREE, columns=("id", "ref"))
        there = [("there", "id", row, 5) for row in (0, 1)] + [("there", "ref", 0, 5)]
        yard = yard_of(world, there + [("begin", ADD), ("begin", FILL)])
        visits = lambda: [yard.mark(cell)[5] for cell in yard.cells]
        self.assertEqual(visits(), ["ahead", "ahead", ""])
        yard.do(("set", "shop", 0, "id", 1, 9))
        yard.do(("set", "shop", 0, "id", 2, 9))
        self.assertEqual(visits(), ["ahead", "ahead", "seen", ""])
        yard.do(("visit", 1))
        self.assertEqual(visits(), ["ahead", "seen", "seen", ""])
        self.assert_raises(NotNow, "event", ("end", FILL), yard.do, ("end", FILL))
        yard.do(("visit", 0))
        yard.do(("visit", 0))
        yard.do(("end", FILL))
        self.assertEqual(visits(), ["", "", "", ""])

    def test_kinds_below_nought(self):
        world = world_of(("wide", (), (("id", "narrow", "cut", "", 1),)), narrow=Kind(-8, 7), wide=Kind(-50, 100))
        yard = yard_of(world, [("there", "id", 0, -3), ("set", "shop", 0, "id", 1, 12)], (-8, 40))
        self.assertEqual(yard.mark(("id", 0)), ("small", -3, "same", "none", (), ""))
        self.assertEqual(yard.mark(("id", 1)), ("great", 12, "cut", "none", (), ""))
        self.assertEqual(yard["id", 1], (12, -4, None))


class MomentTest(YardCase):
    def test_amid_long_steps(self):
        yard = Yard(SHOP, SPAN)
        plan = (ADD, RELEASE, FILL, UP, ("grow", 500), ("purge", 20))
        wanted = list(moments(SHOP, SPAN, plan))
        found = [yard.moment]
        for event in begin(*plan):
            yard.do(event)
            found.append(yard.moment)
        self.assertEqual(found, wanted)

    def test_wrong_ones_behind_a_missing_side(self):
        yard = yard_of(world_of(FREE, LATE), begin(RELEASE))
        self.assertEqual(yard.moment[0], (("shop", 1),))


class BackTest(YardCase):
    def test_nothing_to_undo(self):
        yard = Yard(SHOP, SPAN)
        for _ in range(2):
            with self.assertRaises(NothingToUndo):
                yard.back()
            yard.do(("there", "id", 0, 5))
            yard.back()
        self.assertEqual((yard.events, yard.cells), ((), ()))

    def test_behind_a_refused_event(self):
        yard = yard_of(world_of(("wide", (), (("id", "narrow", "refuse", "", 1),))), [("there", "id", 0, 5)])
        before = told_of(yard)
        yard.do(("set", "shop", 0, "id", 0, 300))
        self.assertEqual(yard.wrongs, ((1, "refused"),))
        yard.back()
        self.assertEqual(told_of(yard), before)
        yard["id", 1] = 7
        self.assertEqual(yard.many, 2)

    def test_all_events(self):
        for seed in range(25):
            draw = random.Random(seed)
            yard = led(draw, 60)
            told = []
            events = yard.events
            while yard.many:
                told.append(told_of(yard))
                yard.back()
            self.assertEqual(told_of(yard), told_of(Yard(yard.world, yard.span)))
            for event in events:
                yard.do(event)
                self.assertEqual(told_of(yard), told.pop())


def led(draw, many, world=None):
    """A yard that is led by drawn steps and events."""
    world = world or draw_world(draw, rules=draw.choice([("cut",), ("cut", "empty", "refuse")]))
    yard = Yard(world, draw_span(draw, world))
    going = None
    while many > 0:
        many -= 1
        if draw.random() < 0.15:
            if going is not None:
                try:
                    end_step(draw, yard, going)
                    going = None
                except NotNow:
                    # A visit is refused.
                    return yard
                continue
            step = drawn_step(draw, yard)
            if step is not None:
                yard.do(("begin", step))
                going = step if step[0] in ("fill", "fill back", "release", "withdraw") else None
        else:
            lead_on(draw, yard, 1)
    return yard


def drawn_step(draw, yard):
    setup = Setup(yard.world, yard.span)
    for event in yard.events:
        if event[0] == "begin":
            setup = setup.behind_begin(event[1])
            setup = setup.behind_end() if setup.going else setup
    return draw_step(draw, yard.world, setup)


class EqualTest(YardCase):
    def test_equal_ones(self):
        events = [("there", "id", 0, 5), ("begin", ADD)]
        yard = yard_of(SHOP, events)
        self.assertEqual(yard, yard_of(SHOP, events))
        self.assertEqual(Yard(SHOP, SPAN), Yard(World(SHOP.narrow, SHOP.wide, SHOP.columns, SHOP.programs), SPAN))
        for other in (yard_of(SHOP, events[:1]), yard_of(SHOP, events, (1, 200)), yard_of(world_of(FREE), events)):
            self.assertNotEqual(yard, other)
        for other in OTHERS + (yard.events, yard.journal):
            self.assertIs(yard == other, False)
            self.assertIs(yard != other, True)

    def test_the_sequence_counts(self):
        events = [("there", "id", 0, 5), ("there", "id", 1, 5)]
        self.assertNotEqual(yard_of(SHOP, events), yard_of(SHOP, events[::-1]))

    def test_copies(self):
        yard = yard_of(SHOP, [("there", "id", 0, 5), ("begin", ADD)])
        twin = yard.copy()
        self.assertEqual(twin, yard)
        self.assertEqual(told_of(twin), told_of(yard))
        twin.do(("begin", RELEASE))
        self.assertNotEqual(twin, yard)
        self.assertEqual((yard.many, twin.many), (2, 3))
        yard.back()
        yard.do(("set", "shop", 0, "id", 0, 9))
        self.assertEqual((yard["id", 0], twin["id", 0]), ((9, 9, None), (5, 5, None)))
        twin.back()
        twin.back()
        twin.back()
        self.assertEqual((twin.cells, yard.cells), ((), (("id", 0),)))

    def test_late_numbers_of_copies(self):
        yard = yard_of(LATER, [*begin(ADD, RELEASE), ("set", "shop", 1, "id", 0, 9)])
        twin = yard.copy()
        twin.do(("come", "shop", 1, "id", 0, 9))
        twin.do(("begin", FILL))
        self.assertEqual((len(yard.late(("id", 0))), len(twin.late(("id", 0)))), (1, 0))
        self.assertEqual([one.mark(("id", 0))[5] for one in (yard, twin)], ["", "ahead"])

    def test_drawn_events_played_again(self):
        for seed in range(40):
            draw = random.Random(seed)
            yard = led(draw, 60)
            again = Yard(yard.world, yard.span)
            for event in yard.events:
                again.do(event)
            self.assertEqual(again, yard)
            self.assertEqual(told_of(again), told_of(yard))
            for cell in yard.cells:
                self.assertTrue(is_mark(yard.world, yard.mark(cell)), (seed, yard.mark(cell)))


if __name__ == "__main__":
    unittest.main()
