"""Texts of plans, runs and worlds."""

import random
import unittest

from drawn import draw_plan, draw_span, draw_world
from widerkeys.errors import BadPlan, BadRun, BadText, BadWorld
from widerkeys.kinds import Kind
from widerkeys.texts import read_plan, read_run, read_world, show_plan, show_run, show_world
from widerkeys.worlds import World

from players import ADD, ANEW, BYTE, ELDER, RELEASE, SHOP, SHORT, world_of
from samples import NO_TEXTS, nested

# Each step, with names that are words of steps.
STEPS = (
    (("add", "id"), "add id"),
    (("add", "back"), "add back"),
    (("drop", "id", "narrow"), "drop id narrow"),
    (("drop", "drop", "wide"), "drop drop wide"),
    (("up", "up"), "up up"),
    (("no up", "up"), "no up up"),
    (("no up", "no"), "no up no"),
    (("down", "down", "cut"), "down down cut"),
    (("down", "cut", "cut"), "down cut cut"),
    (("no down", "id"), "no down id"),
    (("fill", "id", "empty"), "fill id empty"),
    (("fill", "back", "anew"), "fill back anew"),
    (("fill back", "id", "anew", "refuse"), "fill back id anew refuse"),
    (("fill back", "back", "empty", "empty"), "fill back back empty empty"),
    (("release", "no"), "release no"),
    (("withdraw", "withdraw"), "withdraw withdraw"),
    (("grow", 0), "grow 0"),
    (("grow", -5), "grow -5"),
    (("grow", 10 ** 18 - 1), "grow 999999999999999999"),
    (("purge", -(10 ** 18 - 1)), "purge -999999999999999999"),
)

EVENTS = (
    (("there", "id", 0, 5), "there id 0 5"),
    (("there", "there", 999999999, -7), "there there 999999999 -7"),
    (("set", "shop", 1, "id", 0, 5), "set shop 1 id 0 5"),
    (("copy", "shop", 0, "id", 3, 4), "copy shop 0 id 3 4"),
    (("copy", "copy", 0, "copy", 3, 3), "copy copy 0 copy 3 3"),
    (("come", "shop", 999999999, "id", 3, 300), "come shop 999999999 id 3 300"),
    (("visit", 0), "visit 0"),
    (("read", "shop", 0, "id", 10), "read shop 0 id 10"),
    (("match", "shop", 0, "id", 1, "ref", 1), "match shop 0 id 1 ref 1"),
    (("match", "shop", 0, "id", 1, "id", 2), "match shop 0 id 1 id 2"),
    (("order", "shop", 2, "id", 1, 0), "order shop 2 id 1 0"),
)

NO_STEP_ROWS = (
    "",
    " ",
    "add",
    "add ",
    " add id",
    "add  id",
    "add id ",
    "add\tid",
    "Add id",
    "add Id",
    "add abcdefghi",
    "add i1",
    "add 5",
    "add id id",
    "adds id",
    "drop id",
    "drop id both",
    "drop id narrow wide",
    "no id",
    "no",
    "no  up id",
    "up",
    "no up",
    "no up id id",
    "down id",
    "down id old",
    "no down id cut",
    "fill id",
    "fill id cut",
    "fill back",
    "fill back id",
    "fill back id anew",
    "fill back id cut anew",
    "fill  back id anew cut",
    "fill id anew cut",
    "grow",
    "grow id",
    "grow 01",
    "grow 00",
    "grow -0",
    "grow +5",
    "grow 5.0",
    "grow 1_0",
    "grow --5",
    "grow 5 5",
    "grow 1000000000000000000",
    "grow -1000000000000000000",
    "purge 0x5",
    "there id 0 5",
    "begin add id",
    "add id\r",
)

NO_EVENT_ROWS = (
    "",
    "begin",
    "begin ",
    "begin  add id",
    "begin add",
    "begin begin add id",
    "begin there id 0 5",
    "end",
    "end visit 0",
    "add id",
    "there id 0",
    "there id 0 5 5",
    "there id 00 5",
    "there id -1 5",
    "there id -0 5",
    "there id 0 05",
    "there id 0 -0",
    "there id 1000000000 5",
    "there id 0 1000000000000000000",
    "there 5 0 id",
    "there  id 0 5",
    "there id 0 5 ",
    "set shop 1 id 0",
    "set shop 1000000000 id 0 5",
    "set shop -1 id 0 5",
    "set shop one id 0 5",
    "set shop 01 id 0 5",
    "set 1 shop id 0 5",
    "copy shop 0 id 3",
    "copy shop 0 id 3 1000000000",
    "visit",
    "visit -1",
    "visit 00",
    "visit 1000000000",
    "visit 0 0",
    "match shop 0 id 1 id 1",
    "match shop 0 id 1 2",
    "order shop 0 id 1 1",
    "order shop 0 id 1 id 2",
    "read shop 0 id",
    "Read shop 0 id 0",
)

OTHERS = (True, False, None, 5, "add id", (), [], {}, list(ADD), nested(20), BYTE, SHOP, ("add",), ("add", "id", "id"))


class PlanTest(unittest.TestCase):
    def test_each_step(self):
        for step, row in STEPS:
            self.assertEqual(show_plan((step,)), row)
            self.assertEqual(read_plan(row), (step,))

    def test_many(self):
        plan = tuple(step for step, _ in STEPS)
        text = "\n".join(row for _, row in STEPS)
        self.assertEqual(show_plan(plan), text)
        self.assertEqual(read_plan(text), plan)
        self.assertEqual(show_plan(plan * 3).count("\n"), 59)

    def test_none(self):
        self.assertEqual(show_plan(()), "")
        self.assertEqual(read_plan(""), ())

    def test_rows_that_are_none(self):
        for row in NO_STEP_ROWS:
            for text, index in ((row, 0), ("add id\n" + row, 1), (row + "\nadd id", 0), ("up id\n" + row + "\nx", 1)):
                if text == "":
                    continue
                with self.assertRaises(BadText) as caught:
                    read_plan(text)
                self.assertEqual(caught.exception.value, index, text)

    def test_line_feeds(self):
        for text, index in (("\n", 0), ("add id\n", 1), ("\nadd id", 0), ("add id\n\nup id", 1), ("add id\r\nup id", 0)):
            with self.assertRaises(BadText) as caught:
                read_plan(text)
            self.assertEqual(caught.exception.value, index)

    def test_values_that_are_no_texts(self):
        for value in NO_TEXTS + (nested(20),):
            for read in (read_plan, read_run, read_world):
                with self.assertRaises(BadText) as caught:
                    read(value)
                self.assertIs(caught.exception.value, None)

    def test_members_that_are_no_steps(self):
        wrong = OTHERS + (
            ("add", "Id"),
            ("add", "abcdefghi"),
            ("add", ""),
            ("add", 5),
            ("add", ["id"]),
            ["add", "id"],
            ("drop", "id", "both"),
            ("grow", True),
            ("grow", "5"),
            ("fill", "id", "cut"),
            ("fill back", "id", "anew"),
            ("there", "id", 0, 5),
            ("begin", ADD),
            ("", "id"),
            (("add", "id"),),
        )
        for member in wrong:
            for plan, index in (((member,), 0), ((ADD, member), 1), ((member, None), 0), ((ADD, RELEASE, member), 2)):
                with self.assertRaises(BadPlan) as caught:
                    show_plan(plan)
                self.assertEqual(caught.exception.index, index, plan)

    def test_plans_that_are_no_tuples(self):
        for plan in (True, False, None, 5, "add id", [], [ADD], {}, BYTE):
            with self.assertRaises(BadPlan) as caught:
                show_plan(plan)
            self.assertIs(caught.exception.index, None)

    def test_names_are_not_of_a_world(self):
        self.assertEqual(show_plan((("add", "zzz"), ("add", "zzz"))), "add zzz\nadd zzz")

    def test_arguments_by_name(self):
        self.assertEqual(show_plan(plan=(ADD,)), "add id")
        self.assertEqual(read_plan(text="add id"), (ADD,))
        self.assertEqual(show_run(run=(("visit", 0),)), "visit 0")
        self.assertEqual(read_run(text="visit 0"), (("visit", 0),))
        self.assertEqual(read_world(text=show_world(world=SHOP)), SHOP)


class RunTest(unittest.TestCase):
    def test_each_event(self):
        for event, row in EVENTS:
            self.assertEqual(show_run((event,)), row)
            self.assertEqual(read_run(row), (event,))

    def test_each_step(self):
        for step, row in STEPS:
            for word in ("begin", "end"):
                self.assertEqual(show_run(((word, step),)), f"{word} {row}")
                self.assertEqual(read_run(f"{word} {row}"), ((word, step),))

    def test_examples(self):
        run = (("begin", ANEW), ("set", "shop", 1, "id", 0, 5))
        self.assertEqual(show_run(run), "begin fill id anew\nset shop 1 id 0 5")

    def test_many(self):
        run = tuple(event for event, _ in EVENTS)
        self.assertEqual(read_run(show_run(run)), run)
        self.assertEqual(show_run(()), "")
        self.assertEqual(read_run(""), ())

    def test_rows_that_are_none(self):
        for row in NO_EVENT_ROWS:
            for text, index in ((row, 0), ("visit 0\n" + row, 1), (row + "\nvisit 0", 0)):
                if text == "":
                    continue
                with self.assertRaises(BadText) as caught:
                    read_run(text)
                self.assertEqual(caught.exception.value, index, text)
        for row in NO_STEP_ROWS:
            for word in ("begin", "end"):
                with self.assertRaises(BadText) as caught:
                    read_run(f"visit 0\n{word} {row}")
                self.assertEqual(caught.exception.value, 1, row)

    def test_members_that_are_no_events(self):
        wrong = OTHERS + (
            ADD,
            ("begin",),
            ("begin", "add id"),
            ("begin", ADD, ADD),
            ("begin", ("begin", ADD)),
            ("end", list(ADD)),
            ("end", ("add", "Id")),
            ("there", "id", -1, 5),
            ("there", "id", 10 ** 9, 5),
            ("there", "id", True, 5),
            ("there", "id", 0, True),
            ("there", "id", 0, "5"),
            ("there", "I", 0, 5),
            ["there", "id", 0, 5],
            ("set", "shop", 10 ** 9, "id", 0, 5),
            ("set", "shop", -1, "id", 0, 5),
            ("set", "shop", "1", "id", 0, 5),
            ("set", "shop", 1, "id", 0),
            ("copy", "shop", 1, "id", 0, 10 ** 9),
            ("visit", 10 ** 9),
            ("visit", None),
            ("match", "shop", 0, "id", 1, "id", 1),
            ("order", "shop", 0, "id", 1, 1),
            ("order", "shop", 0, "id", 1, "id"),
        )
        for member in wrong:
            for run, index in (((member,), 0), ((("visit", 0), member), 1), ((member, None), 0)):
                with self.assertRaises(BadRun) as caught:
                    show_run(run)
                self.assertEqual(caught.exception.index, index, run)

    def test_runs_that_are_no_tuples(self):
        for run in (True, False, None, 5, "visit 0", [], [("visit", 0)], {}, BYTE):
            with self.assertRaises(BadRun) as caught:
                show_run(run)
            self.assertIs(caught.exception.index, None)


WORLD_TEXT = """narrow 0..255
wide 0..65535
column id
program shop
edition narrow
read id narrow show
write id narrow refuse - 3
edition narrow
read id narrow show
write id both refuse - 3
edition wide
read id wide show
write id wide refuse - 2"""


def great_world():
    """A world with all words."""
    reads = (("a", "either", ("match", "order", "show")), ("b", "narrow", ()), ("c", "either", ("order",)))
    first = ("wide", reads, (("a", "narrow", "cut", "b", 0), ("c", "narrow", "empty", "", 99)))
    writes = (("a", "narrow first", "cut", "c", 7), ("b", "wide first", "empty", "", 1), ("c", "wide", "refuse", "a", 2))
    later = ("narrow", (("a", "wide", ()),) + reads[1:], writes[:2] + (("c", "both", "cut", "a", 2),))
    programs = (("p", (first, later)), ("program", (("wide", (), ()),)), ("read", (first,)))
    return World(Kind(-8, 7), Kind(-9, 10 ** 17), ("a", "b", "c"), programs)


class WorldTest(unittest.TestCase):
    def test_shop(self):
        self.assertEqual(show_world(SHOP), WORLD_TEXT)
        self.assertEqual(read_world(WORLD_TEXT), SHOP)

    def test_all_words(self):
        world = great_world()
        text = show_world(world)
        self.assertEqual(read_world(text), world)
        for row in (
            "narrow -8..7",
            "wide -9..100000000000000000",
            "read a either match order show",
            "read b narrow",
            "write a narrow cut b 0",
            "write c narrow empty - 99",
            "write a narrow-first cut c 7",
            "write b wide-first empty - 1",
            "program read",
        ):
            self.assertIn(row, text.split("\n"))

    def test_drawn_worlds(self):
        for seed in range(60):
            world = draw_world(random.Random(seed))
            self.assertEqual(read_world(show_world(world)), world)
            self.assertEqual(show_world(read_world(show_world(world))), show_world(world))

    def assert_bad(self, index, rows):
        with self.assertRaises(BadText) as caught:
            read_world("\n".join(rows))
        self.assertEqual(caught.exception.value, index, rows)

    def test_rows_that_are_none(self):
        rows = WORLD_TEXT.split("\n")
        for at, row in enumerate(rows):
            for other in ("", " " + row, row + " ", row.replace(" ", "  ", 1), row.upper(), row + " x", row.split(" ")[0], "span 1 200", "x"):
                self.assert_bad(at, rows[:at] + [other] + rows[at + 1 :])
        for at in range(2, len(rows) + 1):
            for other in ("narrow 0..255", "wide 0..65535", "", "begin add id"):
                self.assert_bad(at, rows[:at] + [other] + rows[at:])

    def test_words(self):
        rows = WORLD_TEXT.split("\n")
        for at, row in (
            (0, "narrow 5..9"),
            (0, "narrow 9"),
            (0, "narrow unsigned 8"),
            (0, "narrow 00..9"),
            (0, "narrow 0..-1"),
            (0, "narrow -0..5"),
            (0, "wide 0..255"),
            (1, "wide 0..65535.."),
            (1, "wide 0...5"),
            (1, "narrow 0..255"),
            (2, "column Id"),
            (2, "column abcdefghi"),
            (2, "column id ref"),
            (3, "program 5"),
            (3, "program shop shop"),
            (4, "edition both"),
            (4, "edition"),
            (5, "read id both show"),
            (5, "read id"),
            (5, "read ID narrow"),
            (5, "read id narrow shows"),
            (5, "read id narrow show match x"),
            (6, "write id narrow refuse 3"),
            (6, "write id narrow refuse - 3 3"),
            (6, "write id narrow first refuse - 3"),
            (6, "write id narrow- refuse - 3"),
            (6, "write id first refuse - 3"),
            (6, "write id narrow old - 3"),
            (6, "write id narrow refuse -- 3"),
            (6, "write id narrow refuse Id 3"),
            (6, "write id narrow refuse - 03"),
            (6, "write id narrow refuse - -0"),
            (6, "write id narrow refuse - x"),
            (6, "write 5 narrow refuse - 3"),
            (6, "write id narrow refuse - 1000000000000000000"),
        ):
            self.assert_bad(at, rows[:at] + [row] + rows[at + 1 :])

    def test_sequence(self):
        rows = WORLD_TEXT.split("\n")
        kinds = rows[:2]
        self.assert_bad(0, rows[1::-1] + rows[2:])
        self.assert_bad(2, kinds + ["edition narrow"])
        self.assert_bad(2, kinds + ["read id narrow"])
        self.assert_bad(2, kinds + ["write id narrow cut - 3"])
        self.assert_bad(3, kinds + ["program shop", "column id"])
        self.assert_bad(4, kinds + ["program shop", "edition wide", "column id"])
        self.assert_bad(3, kinds + ["program shop", "read id narrow"])
        self.assert_bad(3, kinds + ["program shop", "write id narrow cut - 3"])
        self.assert_bad(5, kinds + ["program shop", "edition wide", "program next", "read id narrow"])
        self.assert_bad(5, kinds + ["program shop", "edition wide", "write id narrow cut - 3", "read id narrow"])

    def test_rows_that_are_wanted(self):
        self.assert_bad(0, [""])
        self.assert_bad(1, ["narrow 0..255"])
        self.assert_bad(1, ["narrow 0..255", ""])
        self.assert_bad(1, ["narrow 0..255", "column id"])
        self.assert_bad(13, WORLD_TEXT.split("\n") + [""])

    def assert_no_world(self, rows, value):
        with self.assertRaises(BadWorld) as caught:
            read_world("\n".join(rows))
        self.assertEqual(caught.exception.value, value)

    def test_what_is_no_world_then(self):
        kinds = ["narrow 0..255", "wide 0..65535"]
        self.assert_no_world(kinds, (BYTE, SHORT, (), ()))
        self.assert_no_world(kinds + ["column id"], (BYTE, SHORT, ("id",), ()))
        self.assert_no_world(kinds + ["column id", "program a"], (BYTE, SHORT, ("id",), (("a", ()),)))
        self.assert_no_world(["narrow 0..9", "wide 0..5"], (Kind(0, 9), Kind(0, 5), (), ()))
        rows = kinds + ["column id", "column id", "program a", "edition wide"]
        self.assert_no_world(rows, (BYTE, SHORT, ("id", "id"), (("a", (("wide", (), ()),)),)))
        rows = kinds + ["column id", "program a", "edition wide", "read ref narrow show match show"]
        self.assert_no_world(rows, (BYTE, SHORT, ("id",), (("a", (("wide", (("ref", "narrow", ("show", "match", "show")),), ()),)),)))
        for pace in (-1, 100, 10 ** 18 - 1):
            rows = kinds + ["column id", "program a", "edition wide", f"write id narrow cut - {pace}"]
            edition = ("wide", (), (("id", "narrow", "cut", "", pace),))
            self.assert_no_world(rows, (BYTE, SHORT, ("id",), (("a", (edition,)),)))
        # The forms of all rows are ahead of this.
        self.assert_bad(3, kinds + ["column id", "x"])


class ChangedTest(unittest.TestCase):
    """Texts with one sign put in, taken out or exchanged are those of nothing, or of something else."""

    def changes(self, draw, text, many):
        for _ in range(many):
            at = draw.randrange(len(text) + 1)
            sign = draw.choice(" \n-.0159abdegilnoprstuw")
            yield text[:at] + sign + text[at:]
            yield text[: max(at - 1, 0)] + text[at:]
            yield text[: max(at - 1, 0)] + sign + text[at:]

    def test_plans_and_runs(self):
        for read, show, forms in ((read_plan, show_plan, STEPS), (read_run, show_run, EVENTS)):
            text = "\n".join(row for _, row in forms)
            for changed in self.changes(random.Random(5), text, 400):
                try:
                    self.assertEqual(show(read(changed)), changed)
                except BadText as error:
                    rows = changed.split("\n")
                    self.assertTrue(0 <= error.value < len(rows))
                    # All rows ahead of the one that is told are such.
                    ahead = "\n".join(rows[: error.value])
                    self.assertEqual(show(read(ahead)), ahead)
                    with self.assertRaises(BadText):
                        read(rows[error.value] or "\n")

    def test_worlds(self):
        for changed in self.changes(random.Random(6), show_world(great_world()), 400):
            try:
                self.assertEqual(show_world(read_world(changed)), changed)
            except (BadText, BadWorld):
                pass


class DrawnTest(unittest.TestCase):
    def test_plans(self):
        for seed in range(60):
            draw = random.Random(seed)
            world = draw_world(draw)
            plan = draw_plan(draw, world, draw_span(draw, world), 14)
            self.assertEqual(read_plan(show_plan(plan)), plan)
            run = tuple(("begin", step) for step in plan)
            self.assertEqual(read_run(show_run(run)), run)


if __name__ == "__main__":
    unittest.main()
