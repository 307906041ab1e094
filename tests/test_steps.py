import unittest

from widerkeys.errors import BadPlan
from widerkeys.steps import is_step, moments
from widerkeys.worlds import World

from players import (
    ADD,
    ANEW,
    BYTE,
    DOUBLE,
    DROP_NARROW,
    DROP_WIDE,
    ELDER,
    FILL,
    NEWER,
    NO_DOWN,
    NO_UP,
    RELEASE,
    SHOP,
    SHORT,
    UP,
    WITHDRAW,
    world_of,
)
from samples import nested

# The world's columns and programs are called like words of steps, too.
ODD = World(BYTE, SHORT, ("add", "back"), (("fill", (ELDER[:1] + ((), ()),)),))

DOWN = ("down", "id", "refuse")
BACK = ("fill back", "id", "anew", "cut")

NO_STEPS = (
    True,
    False,
    None,
    0,
    1,
    "",
    "add",
    "add id",
    (),
    ("add",),
    ("add", "id", "id"),
    ("id", "add"),
    (("add", "id"),),
    ("add id",),
    ("Add", "id"),
    ("", "id"),
    (True, "id"),
    (None,),
    ([], "id"),
    ({}, "id"),
    (("add",), "id"),
    (["add"], "id"),
    ["add", "id"],
    {"add": "id"},
    {},
    [],
    nested(20),
)


def plan_error(world, span, plan):
    """The index that moments tells of a plan; "fine" if it is one."""
    try:
        moments(world, span, plan)
    except BadPlan as error:
        return error.index
    return "fine"


class FormTest(unittest.TestCase):
    def assert_steps(self, good, *steps):
        for step in steps:
            self.assertIs(is_step(SHOP, step), good, step)

    def test_columns(self):
        for word in ("add", "up", "no up", "no down"):
            self.assert_steps(True, (word, "id"))
            self.assert_steps(False, (word, "ref"), (word, "shop"), (word, ""), (word, True), (word, ["id"]))
            self.assert_steps(False, (word,), (word, "id", "cut"), (word, ("id",)), (word, None), (word, {}))

    def test_drops(self):
        self.assert_steps(True, DROP_NARROW, DROP_WIDE)
        self.assert_steps(False, ("drop", "id"), ("drop", "id", "both"), ("drop", "id", "either"), ("drop", "id", ""))
        self.assert_steps(False, ("drop", "ref", "wide"), ("drop", "wide", "id"), ("drop", "id", "wide", "wide"))
        self.assert_steps(False, ("drop", "id", None), ("drop", "id", ["wide"]), ("drop", "id", ("wide",)))

    def test_mirrors_down(self):
        self.assert_steps(True, *[("down", "id", rule) for rule in ("cut", "empty", "refuse")])
        self.assert_steps(False, ("down", "id"), ("down", "id", ""), ("down", "id", "anew"), ("down", "ref", "cut"))
        self.assert_steps(False, ("down", "id", True), ("down", "id", {}), ("down", "id", "cut", "cut"))
        self.assert_steps(False, ("up", "id", ""), ("up", "id", "cut"), ("no down", "id", "cut"))

    def test_fills(self):
        self.assert_steps(True, FILL, ANEW)
        self.assert_steps(False, ("fill", "id"), ("fill", "id", "cut"), ("fill", "id", "anew", "cut"))
        self.assert_steps(False, ("fill", "ref", "anew"), ("fill", "id", None), ("fill", "id", ["anew"]))
        for manner in ("empty", "anew"):
            for rule in ("cut", "empty", "refuse"):
                self.assert_steps(True, ("fill back", "id", manner, rule))
        self.assert_steps(False, ("fill back", "id", "anew"), ("fill back", "id", "cut", "anew"), ("fill back", "id"))
        self.assert_steps(False, ("fill back", "id", "anew", "anew"), ("fill back", "id", "cut", "cut"))
        self.assert_steps(False, ("fill back", "ref", "anew", "cut"), ("fill back", "id", "anew", "cut", 0))

    def test_programs(self):
        for word in ("release", "withdraw"):
            self.assert_steps(True, (word, "shop"))
            self.assert_steps(False, (word,), (word, "id"), (word, "shops"), (word, "shop", 1), (word, ("shop",)))
            self.assert_steps(False, (word, 0), (word, True), (word, None), (word, []), (word, {"shop": 1}))

    def test_numbers(self):
        for word in ("grow", "purge"):
            # Numbers any integers, possible or not.
            self.assert_steps(True, *[(word, number) for number in (0, 1, -1, 300, 70000, -(10 ** 17), 10 ** 17)])
            self.assert_steps(False, (word,), (word, 1, 2), (word, "1"), (word, (1,)), (word, [1]), (word, {1: 1}))
            self.assert_steps(False, (word, True), (word, False), (word, None), (word, BYTE))

    def test_other_values(self):
        self.assert_steps(False, *NO_STEPS)

    def test_names_of_another_world(self):
        for step in (("add", "add"), ("up", "back"), ("fill", "back", "anew"), ("release", "fill")):
            self.assertTrue(is_step(ODD, step))
            self.assertFalse(is_step(SHOP, step))
        for step in (ADD, ANEW, RELEASE, ("fill", "add"), ("release", "add"), ("add", "fill")):
            self.assertFalse(is_step(ODD, step))

    def test_arguments_by_name(self):
        self.assertIs(is_step(value=ADD, world=SHOP), True)
        self.assertIs(is_step(value=SHOP, world=SHOP), False)


class PlanTest(unittest.TestCase):
    def assert_last(self, good, *plan, world=SHOP, span=(1, 200)):
        """Whether the last step of a plan is possible in its place, all others being so."""
        self.assertEqual(plan_error(world, span, plan), "fine" if good else len(plan) - 1, plan)

    def test_add(self):
        self.assert_last(True, ADD)
        self.assert_last(False, ADD, ADD)
        self.assert_last(False, ADD, DROP_NARROW, ADD)
        self.assert_last(True, ADD, DROP_WIDE, ADD)

    def test_drop(self):
        for step in (DROP_NARROW, DROP_WIDE):
            other = DROP_WIDE if step == DROP_NARROW else DROP_NARROW
            self.assert_last(False, step)
            self.assert_last(True, ADD, step)
            self.assert_last(False, ADD, step, step)
            self.assert_last(False, ADD, step, other)
            self.assert_last(False, ADD, UP, step)
            self.assert_last(False, ADD, DOWN, step)
            self.assert_last(True, ADD, UP, NO_UP, step)
            self.assert_last(True, ADD, DOWN, NO_DOWN, step)
            self.assert_last(False, ADD, UP, DOWN, NO_UP, step)
            self.assert_last(False, ADD, UP, DOWN, NO_DOWN, step)
            self.assert_last(True, ADD, UP, DOWN, NO_DOWN, NO_UP, step)

    def test_a_drop_beside_a_mirror_of_another_column(self):
        world = world_of(ELDER, columns=("id", "ref"))
        self.assert_last(True, ADD, ("add", "ref"), ("up", "ref"), ("down", "ref", "cut"), DROP_WIDE, world=world)

    def test_mirrors(self):
        for on, off in ((UP, NO_UP), (DOWN, NO_DOWN)):
            self.assert_last(False, on)
            self.assert_last(False, off)
            self.assert_last(True, ADD, on)
            self.assert_last(False, ADD, off)
            self.assert_last(False, ADD, on, on)
            self.assert_last(True, ADD, on, off)
            self.assert_last(False, ADD, on, off, off)
            self.assert_last(True, ADD, on, off, on)
            self.assert_last(False, ADD, DROP_NARROW, on)
            self.assert_last(False, ADD, DROP_WIDE, on)
        # Another rule is no other mirror.
        self.assert_last(False, ADD, DOWN, ("down", "id", "cut"))
        self.assert_last(True, ADD, DOWN, UP)
        self.assert_last(True, ADD, UP, DOWN)
        self.assert_last(False, ADD, UP, NO_DOWN)
        self.assert_last(False, ADD, DOWN, NO_UP)

    def test_fills(self):
        for step in (FILL, ANEW, BACK):
            self.assert_last(False, step)
            self.assert_last(True, ADD, step)
            self.assert_last(True, ADD, step, step)
            self.assert_last(False, ADD, DROP_NARROW, step)
            self.assert_last(False, ADD, DROP_WIDE, step)
            self.assert_last(True, ADD, UP, DOWN, step)

    def test_columns_are_apart(self):
        world = world_of(ELDER, columns=("id", "ref"))
        self.assert_last(False, ADD, ("up", "ref"), world=world)
        self.assert_last(True, ADD, ("add", "ref"), ("up", "ref"), world=world)
        self.assert_last(False, ADD, ("add", "ref"), ("up", "ref"), NO_UP, world=world)
        self.assert_last(False, ADD, ("fill", "ref", "anew"), world=world)

    def test_releases(self):
        self.assert_last(True, RELEASE, RELEASE)
        self.assert_last(False, RELEASE, RELEASE, RELEASE)
        self.assert_last(False, WITHDRAW)
        self.assert_last(True, RELEASE, WITHDRAW)
        self.assert_last(False, RELEASE, WITHDRAW, WITHDRAW)
        self.assert_last(True, RELEASE, RELEASE, WITHDRAW, WITHDRAW, RELEASE)
        self.assert_last(False, RELEASE, world=world_of(ELDER))

    def test_programs_are_apart(self):
        world = World(BYTE, SHORT, ("id",), (("bank", (ELDER, NEWER)), ("shop", (ELDER,))))
        self.assert_last(True, ("release", "bank"), ("withdraw", "bank"), world=world)
        self.assert_last(False, ("release", "bank"), WITHDRAW, world=world)
        self.assert_last(False, RELEASE, world=world)

    def test_no_plans(self):
        for plan in (True, False, None, 0, 1, "", "add id", [], [ADD], {}, {ADD: 1}, [()], BYTE, SHOP):
            self.assertIsNone(plan_error(SHOP, (1, 200), plan), plan)

    def test_14_and_15_steps(self):
        steps = (ADD, DROP_WIDE) * 8
        for many in range(15):
            self.assertEqual(plan_error(SHOP, (1, 200), steps[:many]), "fine")
        for many in (15, 16):
            self.assertIsNone(plan_error(SHOP, (1, 200), steps[:many]))
        # That there are too many is told ahead of all indexes.
        self.assertIsNone(plan_error(SHOP, (1, 200), (None,) * 15))
        self.assertEqual(plan_error(SHOP, (1, 200), (None,) * 14), 0)
        self.assertEqual(plan_error(SHOP, (1, 200), steps[:13] + (ADD,)), 13)
        self.assertEqual(plan_error(SHOP, (1, 200), steps[:13] + (None,)), 13)

    def test_the_first_wrong_step(self):
        for step in NO_STEPS + (("add", "ref"), ("grow", True), ("release", "bank")):
            self.assertEqual(plan_error(SHOP, (1, 200), (step,)), 0)
            self.assertEqual(plan_error(SHOP, (1, 200), (ADD, step, step)), 1)
            # A step that is not possible stands ahead of one that is none, and behind one.
            self.assertEqual(plan_error(SHOP, (1, 200), (ADD, UP, UP, step)), 2)
            self.assertEqual(plan_error(SHOP, (1, 200), (ADD, UP, step, UP)), 2)


class MomentsTest(unittest.TestCase):
    def assert_moments(self, plan, wanted, world=SHOP, span=(1, 200)):
        found = moments(world, span, plan)
        self.assertEqual(found, tuple(wanted))
        for moment in found:
            self.assertEqual([len(moment)] + [isinstance(part, tuple) for part in moment], [5] + [True] * 5)

    def test_the_first_moment(self):
        self.assert_moments((), [((("shop", 0),), ("narrow",), (), (), (1, 200))])

    def test_the_first_moment_of_a_greater_world(self):
        programs = tuple([(name, (ELDER, ELDER)) for name in ("a", "b", "c")])
        world = World(BYTE, SHORT, ("id", "key", "ref"), programs)
        running = (("a", 0), ("b", 0), ("c", 0))
        self.assert_moments((), [(running, ("narrow",) * 3, (), (), (1, 16))], world, (1, 16))
        plan = (("release", "b"), ("add", "key"))
        amid = (("a", 0), ("b", 0), ("b", 1), ("c", 0))
        after = (("a", 0), ("b", 1), ("c", 0))
        wanted = [
            (running, ("narrow",) * 3, (), (), (1, 16)),
            (amid, ("narrow",) * 3, (), (), (1, 16)),
            (after, ("narrow",) * 3, (), (), (1, 16)),
            (after, ("narrow", "both", "narrow"), (), (), (1, 16)),
        ]
        self.assert_moments(plan, wanted, world, (1, 16))

    def test_release_and_withdraw(self):
        zero, one, two = ("shop", 0), ("shop", 1), ("shop", 2)
        rows = [(zero,), (zero, one), (one,), (one, two), (two,), (one, two), (one,), (zero, one), (zero,)]
        wanted = [(row, ("narrow",), (), (), (1, 200)) for row in rows]
        self.assert_moments((RELEASE, RELEASE, WITHDRAW, WITHDRAW), wanted)

    def test_sides(self):
        wanted = [((("shop", 0),), (there,), (), (), (1, 200)) for there in ("narrow", "both", "narrow", "both", "wide")]
        self.assert_moments((ADD, DROP_WIDE, ADD, DROP_NARROW), wanted)

    def test_mirrors(self):
        down, up = ("id", "down", "empty"), ("id", "up", "")
        rows = [(), (), (up,), (down, up), (down,), (), (("id", "down", "cut"),)]
        wanted = [((("shop", 0),), ("both",), row, (), (1, 200)) for row in rows]
        wanted[0] = ((("shop", 0),), ("narrow",), (), (), (1, 200))
        self.assert_moments((ADD, UP, ("down", "id", "empty"), NO_UP, NO_DOWN, ("down", "id", "cut")), wanted)

    def test_mirrors_of_several_columns(self):
        world = world_of(ELDER, columns=("id", "ref"))
        plan = (ADD, ("add", "ref"), ("up", "ref"), UP, ("down", "ref", "cut"), ("down", "id", "refuse"))
        mirrors = (("id", "down", "refuse"), ("id", "up", ""), ("ref", "down", "cut"), ("ref", "up", ""))
        self.assertEqual(moments(world, (1, 200), plan)[-1][2], mirrors)
        self.assertEqual(moments(world, (1, 200), plan)[-2][2], mirrors[1:])
        self.assertEqual(moments(world, (1, 200), plan)[-1][1], ("both", "both"))
        self.assertEqual(moments(world, (1, 200), plan)[1][1], ("both", "narrow"))

    def test_fills(self):
        rows = [(), (), FILL, (), BACK, ()]
        wanted = [((("shop", 0),), ("both",), (), row, (1, 200)) for row in rows]
        wanted[0] = ((("shop", 0),), ("narrow",), (), (), (1, 200))
        self.assert_moments((ADD, FILL, BACK), wanted)

    def test_spans(self):
        rows = [(1, 200), (1, 300), (50, 300), (50, 301)]
        wanted = [((("shop", 0),), ("narrow",), (), (), row) for row in rows]
        self.assert_moments((("grow", 300), ("purge", 50), ("grow", 301)), wanted)

    def test_the_example(self):
        amid = ((("shop", 0), ("shop", 1)), ("both",), (), (), (1, 200))
        self.assertEqual(
            moments(SHOP, (1, 200), (ADD, RELEASE))[1:3], (((("shop", 0),), ("both",), (), (), (1, 200)), amid)
        )
        self.assertEqual(plan_error(SHOP, (1, 200), (ADD, ("grow", 260))), 1)

    def test_equal_calls(self):
        plan = (ADD, UP, RELEASE, ("grow", 300), BACK)
        self.assertEqual(moments(SHOP, (1, 200), plan), moments(SHOP, (1, 200), plan))
        self.assertEqual(plan, (ADD, UP, RELEASE, ("grow", 300), BACK))

    def test_arguments_by_name(self):
        self.assertEqual(moments(plan=(ADD,), span=(1, 200), world=SHOP), moments(SHOP, (1, 200), (ADD,)))

    def test_unlike_editions(self):
        self.assertEqual(len(moments(world_of(ELDER, DOUBLE), (1, 200), (ADD, RELEASE, FILL, DROP_NARROW))), 7)


if __name__ == "__main__":
    unittest.main()
