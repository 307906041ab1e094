"""Plans that are judged: their tables, and the runs of those that are not safe."""

import random
import unittest

import second
from drawn import RULES, draw_plan, draw_safe_plan, draw_span, draw_world
from widerkeys.errors import BadPlan, BadSpan
from widerkeys.judging import judged, shows_safe
from widerkeys.kinds import Kind
from widerkeys.runs import shows_wrong
from widerkeys.worlds import World

from players import (
    ADD,
    ANEW,
    BYTE,
    DEEDS,
    DROP_NARROW,
    DROP_WIDE,
    FILL,
    NO_DOWN,
    NO_UP,
    RELEASE,
    SHOP,
    SHORT,
    UP,
    WITHDRAW,
    copier,
    play_on,
    world_of,
)
from samples import NO_SPANS, nested

SPAN = (1, 200)
DOWN = ("down", "id", "refuse")
PLAN = (ADD, RELEASE, ANEW, DOWN, RELEASE, NO_DOWN, ("grow", 40000), DROP_NARROW)

# A first edition that does nothing to the numbers.
IDLE = ("wide", (), ())

SMALL = ("small", 200, "same", "none", (), "")


def writer(how, rule="cut", sight="wide"):
    return sight, (), (("id", how, rule, "", 1),)


def reader(side, sight="wide", deeds=("show",)):
    return sight, (("id", side, deeds),), ()


class JudgedCase(unittest.TestCase):
    def assert_safe(self, world, span, plan):
        """Its tables, which are shown to be safe."""
        word, tables = judged(world, span, plan)
        self.assertEqual(word, "safe", tables)
        self.assertIs(shows_safe(world, span, plan, tables), True)
        return tables

    def assert_wrong(self, world, span, plan, *words):
        """Its run, which goes wrong with its last event alone, by one of these words."""
        word, run = judged(world, span, plan)
        self.assertEqual(word, "wrong", run)
        self.assertIs(shows_wrong(world, span, plan, run), True)
        self.assertIs(shows_wrong(world, span, plan, run[:-1]), False)
        _, told = play_on(world, span, run)
        self.assertIn(told[-1], words)
        return run

    def assert_last(self, world, span, plan, *marks):
        """The last table of a safe plan, of a world with one column."""
        self.assertEqual(self.assert_safe(world, span, plan)[-1], (marks,))


class ExampleTest(JudgedCase):
    def test_safe(self):
        tables = self.assert_safe(SHOP, SPAN, PLAN)
        self.assertEqual(tables[0], ((SMALL,),))
        same, none, old = [("small", 200, "same", word, (), "") for word in ("same", "none", "old")]
        self.assertEqual(tables[2], ((none, old, same),))
        great = ("great", 40000, "none", "same", (), "")
        self.assertEqual(tables[-1], ((great, ("small", 255, "none", "same", (), "")),))

    def test_wrong(self):
        self.assert_wrong(SHOP, SPAN, PLAN[:3] + PLAN[4:5], "none", "old")

    def test_the_pair(self):
        rows = (("id", "narrow", ("match",)), ("ref", "narrow", ("match",)))
        desk = ("narrow", rows, (("ref", "narrow", "cut", "id", 1),))
        maker = ("wide", (), (("id", "narrow", "cut", "", 1),))
        pair = World(BYTE, SHORT, ("id", "ref"), (("desk", (desk,)), ("maker", (maker,))))
        self.assert_safe(pair, (100, 200), (("grow", 300), ("purge", 150), ("grow", 400)))
        run = self.assert_wrong(pair, (100, 200), (("grow", 400),), "match")
        self.assertEqual({event[-1] for event in run if event[0] == "set"} & {100, 356}, {100, 356})


class PlanTest(JudgedCase):
    def test_no_steps(self):
        self.assertEqual(self.assert_safe(SHOP, SPAN, ()), (((SMALL,),),))

    def test_fourteen_steps(self):
        self.assert_safe(SHOP, SPAN, (ADD, UP, NO_UP) + (UP, NO_UP) * 5 + (UP,))
        run = self.assert_wrong(SHOP, SPAN, (ADD, UP, NO_UP) + (UP, NO_UP) * 5 + (DROP_NARROW,), "missing")
        self.assertEqual(len(run), 14)

    def test_three_of_all(self):
        names = ("a", "b", "c")
        first = ("wide", tuple((name, "narrow", ()) for name in names), (("a", "narrow", "cut", "", 1),))
        second_edition = ("wide", first[1], (("b", "both", "cut", "a", 1),))
        third = ("wide", first[1], (("c", "narrow first", "empty", "b", 1),))
        programs = tuple((name, (first, second_edition, third)) for name in ("p", "q"))
        world = World(BYTE, SHORT, names, programs + (("r", (first, second_edition, first)),))
        plan = (("add", "b"), ("add", "c"), ("release", "p"), ("release", "q"), ("release", "p"))
        tables = self.assert_safe(world, SPAN, plan)
        self.assertEqual([len(table) for table in tables], [3] * 9)
        late = (("p", 2, "old"), ("p", 2, "same"))
        # The late one is copied from a small number, so it is written as it is.
        self.assertIn(("small", 200, "same", "old", late, ""), tables[-1][2])
        self.assertEqual(len(tables[-1][0]), 1)

    def test_spans_and_plans_that_are_none(self):
        for span in NO_SPANS + ((0, 65536), (-1, 200), (1, 15), (200, 214)):
            with self.assertRaises(BadSpan) as caught:
                judged(SHOP, span, (5,))
            self.assertEqual(caught.exception.value, span)
        for plan, index in (
            (None, None),
            ([], None),
            ("", None),
            (True, None),
            ({}, None),
            ((ADD,) * 15, None),
            ((ADD, ADD), 1),
            ((5,), 0),
            ((ADD, None), 1),
            ((ADD, ("grow", True)), 1),
            ((ADD, [ADD]), 1),
            ((nested(20),), 0),
        ):
            with self.assertRaises(BadPlan) as caught:
                judged(SHOP, SPAN, plan)
            self.assertEqual(caught.exception.index, index, plan)

    def test_arguments_by_name(self):
        self.assertEqual(judged(plan=PLAN, span=SPAN, world=SHOP), judged(SHOP, SPAN, PLAN))


class BeginningTest(JudgedCase):
    def test_no_small_number(self):
        world = world_of(("narrow", (("id", "narrow", ("show",)),), (("id", "narrow", "refuse", "", 1),)))
        self.assertEqual(self.assert_safe(world, (256, 300), (ADD, ("grow", 400))), (((),),) * 3)

    def test_small_ones_only_up_to_the_narrow_kind(self):
        world = world_of(writer("narrow"))
        self.assertEqual(self.assert_safe(world, (1, 300), ())[0][0][-1], ("small", 255, "same", "none", (), ""))
        self.assertEqual(self.assert_safe(world, (1, 200), ()), (((SMALL,),),))

    def test_the_first_moment_can_be_wrong(self):
        world = world_of(writer("narrow", "refuse"))
        self.assert_safe(world, (1, 255), (ADD,))
        for plan in ((), (ADD,), (ADD, ADD[:1] + ("id",))[:1]):
            self.assertEqual(len(self.assert_wrong(world, (1, 300), plan, "refused")), 1)


class WritingTest(JudgedCase):
    """What stands behind a small and a great number, by ways of writing and rules."""

    def marks_of(self, how, rule, steps=(), span=(1, 300)):
        """The great marks without late ones that come from new cells."""
        world = world_of(IDLE, writer(how, rule))
        tables = self.assert_safe(world, span, (ADD, *steps, RELEASE))
        return {mark[2:5] for mark in tables[-1][0] if mark[0] == "great"}

    def test_rules(self):
        self.assertEqual(self.marks_of("narrow", "cut"), {("cut", "none", ())})
        self.assertEqual(self.marks_of("narrow", "empty"), {("none", "none", ())})
        self.assertEqual(self.marks_of("both", "cut"), {("cut", "same", ())})
        self.assertEqual(self.marks_of("both", "empty"), {("none", "same", ())})
        wide = {("none", "same", ()), ("old", "same", ())}
        for rule in ("cut", "empty", "refuse"):
            self.assertEqual(self.marks_of("wide", rule), wide)

    def test_mirrors(self):
        self.assertEqual(self.marks_of("narrow", "cut", (UP,)), {("cut", "cut", ())})
        self.assertEqual(self.marks_of("narrow", "empty", (UP,)), {("none", "none", ())})
        self.assertEqual(self.marks_of("wide", "refuse", (UP,)), {("none", "same", ()), ("old", "same", ())})
        for rule, word in (("cut", "cut"), ("empty", "none")):
            self.assertEqual(self.marks_of("wide", "refuse", (("down", "id", rule),)), {(word, "same", ())})

    def test_in_two_events(self):
        late = lambda *words: tuple(("shop", 1, word) for word in words)
        first = self.marks_of("narrow first", "cut")
        self.assertIn(("cut", "far", late("far", "old", "same")), first)
        self.assertIn(("cut", "same", late("far", "old", "same")), first)
        self.assertIn(("cut", "none", late("far", "old", "same")), first)
        self.assertEqual({mark[0] for mark in first}, {"cut"})
        second_way = self.marks_of("wide first", "empty")
        self.assertIn(("none", "same", late("far", "old", "same")), second_way)
        self.assertEqual({mark[1] for mark in second_way}, {"same"})

    def test_refused(self):
        for how in ("narrow", "both", "narrow first"):
            run = self.assert_wrong(world_of(IDLE, writer(how, "refuse")), (1, 300), (ADD, RELEASE), "refused")
            self.assertEqual(run[-1][0], "set")
        for how in ("wide", "wide first"):
            world = world_of(IDLE, writer(how, "cut"))
            self.assert_wrong(world, (1, 300), (ADD, DOWN, RELEASE), "refused")
        run = self.assert_wrong(world_of(IDLE, writer("wide first", "refuse")), (1, 300), (ADD, RELEASE), "refused")
        self.assertEqual([event[0] for event in run[-2:]], ["set", "come"])

    def test_what_is_not_there_does_not_refuse(self):
        world = world_of(IDLE, writer("wide", "refuse"), IDLE)
        self.assert_safe(world, (1, 300), (ADD, DROP_NARROW, RELEASE))

    def test_a_late_old_one_is_refused_if_it_is_great(self):
        # A narrow edition sets small numbers alone; the great one that is late is an elder one.
        writes = (("id", "wide first", "refuse", "", 1),)
        world = World(BYTE, SHORT, ("id",), (("a", (IDLE, ("wide", (), writes))),))
        run = self.assert_wrong(world, (256, 400), (("add", "id"), ("release", "a")), "refused")
        self.assertEqual(run[-1][0], "come")


class CopyTest(JudgedCase):
    def world(self, side, how, sight="wide", rule="cut", first="narrow"):
        reads = (("id", side, ()),)
        maker = ("wide", (), (("id", first, "cut", "", 1),))
        return World(BYTE, SHORT, ("id", "ref"), (("copier", (IDLE, (sight, reads, (("ref", how, rule, "id", 1),)))), ("maker", (IDLE, maker))))

    def test_of_a_cut_number(self):
        world = self.world("narrow", "both")
        plan = (("add", "ref"), ("release", "copier"), ("release", "maker"))
        table = self.assert_safe(world, (256, 400), plan)[-1]
        self.assertEqual(table, ((("great", 400, "cut", "none", (), ""),), (("great", 400, "cut", "cut", (), ""),)))

    def test_of_a_number_that_is_cut_as_it_is_read(self):
        world = self.world("wide", "both", sight="narrow", first="both")
        plan = (("add", "id"), ("add", "ref"), ("release", "maker"), ("release", "copier"))
        table = self.assert_safe(world, (256, 400), plan)[-1]
        self.assertEqual(table[1], (("great", 400, "cut", "cut", (), ""),))

    def test_of_an_exact_number(self):
        for rule, word in (("cut", "cut"), ("empty", "none")):
            world = self.world("wide", "both", rule=rule, first="both")
            plan = (("add", "id"), ("add", "ref"), ("release", "maker"), ("release", "copier"))
            table = self.assert_safe(world, (256, 400), plan)[-1]
            self.assertEqual(table[1], (("great", 400, word, "same", (), ""),))
        world = self.world("wide", "both", rule="refuse", first="both")
        run = self.assert_wrong(world, (256, 400), plan, "refused")
        self.assertEqual(run[-1][0], "copy")

    def test_over_what_was_there(self):
        world = self.world("narrow", "narrow first", first="narrow")
        plan = (("add", "ref"), ("release", "maker"), ("release", "copier"))
        late = tuple(("copier", 1, word) for word in ("cut", "old", "same"))
        for table in self.assert_safe(world, (1, 400), plan)[-1:]:
            self.assertIn(("great", 400, "cut", "old", late[:2], ""), table[1])
            self.assertIn(("small", 255, "same", "old", late[1:], ""), table[1])

    def test_tops_go_with_what_is_copied(self):
        world = self.world("narrow", "narrow")
        plan = (("release", "copier"), ("release", "maker"), ("withdraw", "maker"), ("grow", 500))
        table = self.assert_safe(world, (256, 400), plan)[-1]
        self.assertEqual([mark[1] for mark in table[0] + table[1]], [400, 400])

    def test_what_is_read_has_to_be_right(self):
        world = self.world("wide", "both", first="narrow")
        plan = (("add", "id"), ("add", "ref"), ("release", "maker"), ("release", "copier"))
        self.assert_wrong(world, (256, 400), plan, "none")


class FillTest(JudgedCase):
    def test_there_and_seen(self):
        tables = self.assert_safe(SHOP, SPAN, (ADD, FILL))
        ahead, seen = [("small", 200, "same", "none", (), word) for word in ("ahead", "seen")]
        filled = ("small", 200, "same", "same", (), "seen")
        old = ("small", 200, "same", "old", (), "seen")
        self.assertEqual(tables[2], ((ahead, seen, old, filled),))
        self.assertEqual(tables[3], (tuple(mark[:5] + ("",) for mark in (seen, old, filled)),))

    def test_back(self):
        world = world_of(IDLE, writer("wide"), IDLE)
        plan = (ADD, RELEASE, RELEASE)
        for rule, word in (("cut", "cut"), ("empty", "none")):
            filled = self.assert_safe(world, (256, 400), plan + (("fill back", "id", "anew", rule),))
            self.assertEqual(filled[-1], ((("great", 400, word, "same", (), ""),),))
        run = self.assert_wrong(world, (256, 400), plan + (("fill back", "id", "empty", "refuse"),), "refused")
        self.assertEqual(run[-1][0], "visit")

    def test_manners(self):
        world = world_of(("wide", (), (("id", "narrow", "cut", "", 1),)), writer("wide"), IDLE)
        plan = (ADD, RELEASE, RELEASE)
        passed = self.assert_safe(world, (1, 200), plan + (FILL,))[-1][0]
        self.assertIn(("small", 200, "same", "old", (), ""), passed)
        anew = self.assert_safe(world, (1, 200), plan + (ANEW,))[-1][0]
        self.assertEqual({mark[2:4] for mark in anew}, {("same", "same"), ("old", "old"), ("none", "same")})

    def test_late_numbers_that_come_amid_it(self):
        world = world_of(IDLE, writer("narrow first"))
        plan = (ADD, RELEASE, ANEW)
        tables = self.assert_safe(world, (1, 200), plan)
        late = (("shop", 1, "old"), ("shop", 1, "same"))
        self.assertIn(("small", 200, "same", "old", late, "seen"), tables[4][0])
        self.assertIn(("small", 200, "same", "old", late, "ahead"), tables[4][0])
        self.assertIn(("small", 200, "same", "old", late, ""), tables[5][0])
        reading = ("wide", (("id", "wide", ()),), ())
        world = World(BYTE, SHORT, ("id",), (("a", (IDLE, writer("narrow first"))), ("b", (IDLE, reading))))
        plan = (ADD, ("release", "a"), ANEW, ("release", "b"))
        run = self.assert_wrong(world, (1, 200), plan, "old", "none")
        self.assertEqual(run[-1][0], "read")

    def test_mirrors(self):
        world = world_of(IDLE, writer("wide"), IDLE)
        plan = (ADD, RELEASE, RELEASE, UP, ("fill back", "id", "anew", "cut"))
        # The mirror writes back what the narrow side then has.
        self.assertEqual(self.assert_safe(world, (256, 400), plan)[-1], ((("great", 400, "cut", "cut", (), ""),),))


class BetweenTest(JudgedCase):
    def test_purge(self):
        world = world_of(writer("narrow", sight="narrow"))
        plan = (("grow", 255), ("grow", 300))
        self.assertEqual(self.assert_safe(world, (1, 200), plan + (("purge", 100),))[-1][0][0][1], 255)
        self.assertEqual(self.assert_safe(world, (1, 200), plan + (("purge", 256),))[-1], ((),))
        # The marks of the beginning have numbers up to 200 alone.
        idle = world_of(IDLE)
        marks = (SMALL,)
        self.assert_last(idle, (1, 200), (("grow", 255), ("purge", 180)), *marks)
        self.assert_last(idle, (1, 200), (("grow", 255), ("purge", 201)))

    def test_drop(self):
        self.assert_last(world_of(IDLE), SPAN, (ADD, ANEW, DROP_NARROW), ("small", 200, "none", "same", (), ""))
        self.assert_last(world_of(IDLE), SPAN, (ADD, ANEW, DROP_WIDE), SMALL)

    def test_release_there_and_back(self):
        world = world_of(IDLE, writer("narrow first"), IDLE)
        tables = self.assert_safe(world, SPAN, (ADD, RELEASE, WITHDRAW, RELEASE, RELEASE, WITHDRAW, WITHDRAW))
        late = [{mark[4] for mark in table[0]} - {()} for table in tables]
        both = {(("shop", 1, "old"), ("shop", 1, "same"))}
        self.assertEqual(late, [set(), set(), both, both, both, set(), both, both, both, set(), both, both, both, set()])

    def test_grow(self):
        world = world_of(writer("narrow"))
        tables = self.assert_safe(world, (1, 100), (("grow", 200), ("grow", 300)))
        self.assertEqual([table[0][-1][1] for table in tables], [100, 200, 255])
        self.assertEqual(tables[2][0][0], ("great", 300, "cut", "none", (), ""))


class ReadingTest(JudgedCase):
    def test_missing(self):
        for side, drop in (("narrow", DROP_NARROW), ("wide", DROP_WIDE)):
            world = world_of(IDLE, reader(side))
            self.assert_wrong(world, SPAN, (ADD, ANEW, RELEASE, drop), "missing")
            self.assert_safe(world, SPAN, (ADD, ANEW, RELEASE))
        world = world_of(IDLE, reader("either"))
        for drop in (DROP_NARROW, DROP_WIDE):
            self.assert_safe(world, SPAN, (ADD, ANEW, RELEASE, drop))

    def test_words(self):
        self.assert_wrong(world_of(IDLE, reader("wide")), SPAN, (ADD, RELEASE), "none")
        self.assert_safe(world_of(IDLE, reader("either")), SPAN, (ADD, RELEASE))
        elder = ("narrow", (), (("id", "narrow", "cut", "", 1),))
        for side in ("wide", "either"):
            world = World(BYTE, SHORT, ("id",), (("a", (elder,)), ("b", (IDLE, reader(side)))))
            self.assert_wrong(world, SPAN, (ADD, ANEW, ("release", "b")), "none", "old")

    def test_far(self):
        # The mirror is off, so a great number in the wide side grows old.
        for sight in ("narrow", "wide"):
            world = World(BYTE, SHORT, ("id",), (("a", (IDLE, writer("wide"), writer("narrow"))), ("b", (IDLE, reader("wide", sight, ())))))
            plan = (ADD, ("release", "a"), ("release", "a"), ("release", "b"))
            run = self.assert_wrong(world, (256, 400), plan, "none", "old")
            self.assertEqual(run[-1][:2], ("read", "b"))
            self.assert_wrong(world, (256, 400), plan[:2] + plan[3:] + plan[2:3], "none", "old")

    def test_far_alone(self):
        # New cells have an empty wide side, so "either" reads the narrow one; in others the wide one is far.
        writers = (IDLE, writer("both"), IDLE, writer("narrow"))
        for sight in ("narrow", "wide"):
            programs = (("a", writers[:3]), ("b", (IDLE, writers[3])), ("c", (IDLE, reader("either", sight, ()))))
            world = World(BYTE, SHORT, ("id",), programs)
            plan = (ADD, ("release", "a"), ("release", "a"), ("release", "c"), ("release", "b"))
            self.assert_safe(world, (256, 400), plan[:4])
            self.assert_wrong(world, (256, 400), plan, "old")
            self.assert_safe(world, (256, 400), (ADD, ("release", "b"), ("release", "c")))

    def test_show(self):
        for deeds, safe in ((("show",), False), ((), True), (("match",), True), (DEEDS, False)):
            world = world_of(("wide", (("id", "narrow", deeds),), (("id", "narrow", "cut", "", 1),)))
            if safe:
                self.assert_safe(world, (256, 400), ())
            else:
                self.assert_wrong(world, (256, 400), (), "show")
            # What is small is read as it is.
            self.assert_safe(world, (1, 200), ())

    def test_sights(self):
        world = world_of(IDLE, ("narrow", (("id", "wide", ("show",)),), ()))
        wide = World(BYTE, SHORT, ("id",), (("a", (IDLE, writer("wide"))), ("b", world.programs[0][1])))
        self.assert_wrong(wide, (256, 400), (ADD, ("release", "a"), ("release", "b")), "show")
        exact = World(BYTE, SHORT, ("id",), (("a", (IDLE, writer("wide"))), ("b", (IDLE, reader("wide")))))
        self.assert_safe(exact, (256, 400), (ADD, ("release", "a"), ("release", "b")))


class ComparisonTest(JudgedCase):
    def cutter(self, deeds, columns=("id",)):
        reads = tuple((column, "narrow", deeds) for column in columns)
        return World(BYTE, SHORT, columns, (("shop", (("wide", reads, tuple((column, "narrow", "cut", "", 1) for column in columns)),)),))

    def test_twice_the_same_mark(self):
        world = self.cutter(("match",))
        self.assert_safe(world, (256, 511), ())
        self.assert_wrong(world, (256, 512), (), "match")
        world = self.cutter(("order",))
        self.assert_safe(world, (256, 511), ())
        self.assert_wrong(world, (256, 512), (), "order")

    def test_two_marks_of_one_column(self):
        world = self.cutter(("match",))
        self.assert_safe(world, (100, 355), ())
        run = self.assert_wrong(world, (100, 356), (), "match")
        self.assertEqual({100, 356} <= {event[-1] for event in run}, True)
        world = self.cutter(("order",))
        self.assert_safe(world, (0, 255), ())
        self.assert_wrong(world, (100, 355), (), "order")

    def test_two_columns(self):
        world = self.cutter(("match",), ("id", "ref"))
        self.assert_safe(world, (100, 355), ())
        self.assert_wrong(world, (100, 356), (), "match")
        world = self.cutter(("order",), ("id", "ref"))
        self.assert_safe(world, (256, 511), ())
        one = (("id", "narrow", ("match",)), ("ref", "narrow", ("order",)))
        writes = (("id", "narrow", "cut", "", 1), ("ref", "narrow", "cut", "", 1))
        world = World(BYTE, SHORT, ("id", "ref"), (("shop", (("wide", one, writes),)),))
        self.assert_safe(world, (256, 511), ())
        self.assert_wrong(world, (100, 355), (), "order")

    def test_of_two_editions_none_is_compared(self):
        one = ("wide", (("id", "narrow", ("match",)),), (("id", "narrow", "refuse", "", 1),))
        other = ("wide", (("ref", "narrow", ("match",)),), (("ref", "narrow", "cut", "", 1),))
        world = World(BYTE, SHORT, ("id", "ref"), (("a", (("narrow",) + one[1:],)), ("b", (other,))))
        self.assert_safe(world, (100, 355), ())
        self.assert_wrong(world, (100, 356), (), "match")
        world = World(BYTE, SHORT, ("id", "ref"), (("a", (("narrow",) + one[1:],)), ("b", (IDLE, other))))
        self.assert_safe(world, (100, 355), (("release", "b"),))

    def test_a_great_one_exact_beside_a_cut_one(self):
        for deed in ("match", "order"):
            maker = ("wide", (), (("id", "both", "cut", "", 1), ("ref", "narrow", "cut", "", 1)))
            reads = (("id", "wide", (deed,)), ("ref", "narrow", (deed,)))
            programs = (("a", (IDLE, maker)), ("b", (IDLE, ("wide", reads, ()))))
            world = World(BYTE, SHORT, ("id", "ref"), programs)
            plan = (ADD, ("release", "a"), ("release", "b"))
            if deed == "match":
                self.assert_wrong(world, (256, 300), plan, "match")
            else:
                self.assert_safe(world, (256, 300), plan)

    def test_all_exact(self):
        for deeds in (("match",), ("order",), DEEDS):
            programs = (("a", (IDLE, writer("both"))), ("b", (IDLE, reader("wide", deeds=deeds))))
            world = World(BYTE, SHORT, ("id",), programs)
            self.assert_safe(world, (1, 600), (ADD, ANEW, ("release", "a"), ("release", "b")))

    def test_exact_ahead_of_cut(self):
        # Of 256 to 600 many numbers have one cut, but what is exact is not taken for another one.
        maker = ("wide", (), (("id", "both", "cut", "", 1), ("ref", "narrow", "cut", "", 1)))
        reads = (("id", "wide", ("match",)), ("ref", "narrow", ("match",)))
        world = World(BYTE, SHORT, ("id", "ref"), (("a", (IDLE, maker)), ("b", (IDLE, ("wide", reads, ())))))
        self.assert_wrong(world, (256, 600), (ADD, ("release", "a"), ("release", "b")), "match")

    def test_both_have_to_be_compared(self):
        # The one column has small numbers alone, the other one great ones, too.
        for small, great in (("id", "ref"), ("ref", "id")):
            for small_deeds, great_deeds, safe in (
                (("match",), (), True),
                (("match", "order", "show"), (), True),
                (("match",), ("match",), False),
                ((), ("match",), False),
            ):
                reads = tuple(sorted([(small, "narrow", small_deeds), (great, "narrow", great_deeds)]))
                maker = ("wide", (), ((great, "narrow", "cut", "", 1),))
                world = World(BYTE, SHORT, ("id", "ref"), (("a", (("narrow", reads, ()),)), ("b", (maker,))))
                if safe:
                    self.assert_safe(world, (100, 400), ())
                else:
                    self.assert_wrong(world, (100, 400), (), "match")

    def test_of_one_column_exact_and_cut(self):
        # The first fill leaves cuts in the wide side, and the newer edition writes great numbers there.
        for deed in ("match", "order"):
            elder = ("wide", (), (("id", "narrow", "cut", "", 1),))
            programs = (("a", (elder, IDLE, writer("wide"))), ("b", (IDLE, reader("wide", deeds=(deed,)))))
            world = World(BYTE, SHORT, ("id",), programs)
            plan = (ADD, ("release", "a"), ANEW, ("release", "b"))
            self.assert_safe(world, (256, 300), plan)
            run = self.assert_wrong(world, (256, 300), plan + (("release", "a"),), deed)
            self.assertEqual(run[-1][0], deed)


class SecondLookTest(JudgedCase):
    def judge_both(self, world, span, plan):
        found, wrong = second.judge(world, span, plan)
        if wrong:
            self.assert_wrong(world, span, plan, "missing", "none", "old", "show", "match", "order", "refused")
            return
        self.assertEqual(self.assert_safe(world, span, plan), tuple(second.greatest(marks) for marks in found))

    def test_drawn_plans(self):
        for seed in range(120):
            draw = random.Random(seed)
            world = draw_world(draw)
            span = draw_span(draw, world)
            self.judge_both(world, span, draw_plan(draw, world, span, draw.randint(0, 6)))

    def test_drawn_plans_that_go_on_safely(self):
        for seed in range(150):
            draw = random.Random(seed)
            rules = draw.choice([RULES, ("cut",), ("cut", "empty")])
            world = draw_world(draw, deeds=draw.choice([0.05, 0.3]), reads=draw.choice([0.2, 0.5]), rules=rules)
            span = draw_span(draw, world)
            plan = draw_safe_plan(draw, world, span, draw.randint(1, 6))
            self.judge_both(world, span, plan)


if __name__ == "__main__":
    unittest.main()
