import unittest

from widerkeys.errors import BadWorld
from widerkeys.kinds import Kind
from widerkeys.worlds import World

from players import BYTE, DOUBLE, ELDER, NEWER, SHOP, SHORT, world_of
from samples import nested

READS = (("id", "narrow", ("show",)), ("ref", "either", ()))
WRITES = (("id", "narrow", "cut", "", 0), ("ref", "narrow", "empty", "id", 99))
PAIR = ("wide", READS, WRITES)

NO_TUPLES = (True, False, None, 0, 1, "", "id", [], ["id"], {}, {"id": 1}, nested(20), BYTE)


class WorldCase(unittest.TestCase):
    def assert_bad(self, narrow, wide, columns, programs):
        with self.assertRaises(BadWorld) as caught:
            World(narrow, wide, columns, programs)
        self.assertEqual(caught.exception.value, (narrow, wide, columns, programs))
        self.assertIsInstance(caught.exception.value, tuple)

    def assert_good(self, narrow, wide, columns, programs):
        world = World(narrow, wide, columns, programs)
        self.assertEqual((world.narrow, world.wide, world.columns, world.programs), (narrow, wide, columns, programs))

    def assert_editions(self, good, *editions, columns=("id", "ref")):
        check = self.assert_good if good else self.assert_bad
        check(BYTE, SHORT, columns, (("shop", editions),))

    def assert_second(self, good, edition):
        """Whether an edition can stand behind a plain one."""
        self.assert_editions(good, ("narrow", (), ()), edition)


class KindsTest(WorldCase):
    def test_narrow_has_to_be_less_than_wide(self):
        for narrow, wide in (
            (BYTE, BYTE),
            (SHORT, BYTE),
            (Kind(-1, 255), Kind(0, 256)),
            (Kind(-20, 20), Kind(-30, 19)),
        ):
            self.assert_bad(narrow, wide, ("id",), (("shop", (ELDER,)),))
        for narrow, wide in ((BYTE, Kind(0, 256)), (BYTE, Kind(-1, 255)), (Kind(-8, 7), Kind(-9, 8))):
            self.assert_good(narrow, wide, ("id",), (("shop", (ELDER,)),))

    def test_narrow_has_at_least_16_numbers(self):
        for low, high in ((0, 14), (-14, 0), (-7, 7), (0, 0)):
            self.assert_bad(Kind(low, high), SHORT | Kind(-99, 0), ("id",), (("shop", (ELDER,)),))
        for low, high in ((0, 15), (-15, 0), (-8, 7), (0, 16)):
            self.assert_good(Kind(low, high), SHORT | Kind(-99, 0), ("id",), (("shop", (ELDER,)),))

    def test_other_values_are_no_kinds(self):
        for value in (*NO_TUPLES, (0, 255), (BYTE,), ELDER, "0..255"):
            if value != BYTE:
                self.assert_bad(value, SHORT, ("id",), (("shop", (ELDER,)),))
            self.assert_bad(BYTE, value, ("id",), (("shop", (ELDER,)),))


class ColumnsTest(WorldCase):
    def test_one_to_three(self):
        programs = (("shop", (("wide", (), ()),)),)
        for columns in (("a",), ("a", "b"), ("a", "b", "c"), ("abcdefgh",), ("a", "aa", "b")):
            self.assert_good(BYTE, SHORT, columns, programs)
        for columns in ((), ("a", "b", "c", "d")):
            self.assert_bad(BYTE, SHORT, columns, programs)

    def test_ascending_names_without_doubles(self):
        programs = (("shop", (("wide", (), ()),)),)
        for columns in (("b", "a"), ("a", "a"), ("a", "b", "b"), ("a", "c", "b"), ("aa", "a")):
            self.assert_bad(BYTE, SHORT, columns, programs)

    def test_names(self):
        programs = (("shop", (("wide", (), ()),)),)
        no_names = (*NO_TUPLES, "Id", "i d", "id1", "abcdefghi", "\u00e9", "\u00df", "i_", "id\n", ("id",), b"id")
        for name in no_names:
            if name != "id":
                self.assert_bad(BYTE, SHORT, (name,), programs)
                self.assert_bad(BYTE, SHORT, ("a", name), programs)

    def test_other_values_are_no_columns(self):
        for columns in NO_TUPLES:
            self.assert_bad(BYTE, SHORT, columns, (("shop", (("wide", (), ()),)),))


class ProgramsTest(WorldCase):
    def test_one_to_three(self):
        plain = (("narrow", (), ()),)
        for names in (("a",), ("a", "b"), ("a", "b", "c"), ("abcdefgh",)):
            self.assert_good(BYTE, SHORT, ("id",), tuple([(name, plain) for name in names]))
        for names in ((), ("a", "b", "c", "d"), ("b", "a"), ("a", "a"), ("a", "c", "b"), ("A",), ("",), ("abcdefghi",)):
            self.assert_bad(BYTE, SHORT, ("id",), tuple([(name, plain) for name in names]))

    def test_no_name_stands_twice_with_other_editions(self):
        one, other = ("narrow", (), ()), ("wide", (), ())
        self.assertLess((one,), (other,))
        self.assert_bad(BYTE, SHORT, ("id",), (("a", (one,)), ("a", (other,))))

    def test_one_to_three_editions(self):
        plain = ("narrow", (), ())
        for many in (1, 2, 3):
            self.assert_editions(True, *[plain] * many)
        for many in (0, 4):
            self.assert_editions(False, *[plain] * many)

    def test_wrong_forms(self):
        plain = ("narrow", (), ())
        for programs in NO_TUPLES:
            self.assert_bad(BYTE, SHORT, ("id",), programs)
        for program in (*NO_TUPLES, (), ("a",), ("a", (plain,), 0), ["a", (plain,)], ((plain,), "a")):
            self.assert_bad(BYTE, SHORT, ("id",), (program,))
        for editions in NO_TUPLES + (plain, [plain], {"a": plain}):
            self.assert_bad(BYTE, SHORT, ("id",), (("a", editions),))
        for name in NO_TUPLES:
            if name != "id":
                self.assert_bad(BYTE, SHORT, ("id",), ((name, (plain,)),))
        self.assert_bad(BYTE, SHORT, ("id",), [("a", (plain,))])


class EditionTest(WorldCase):
    def test_good_ones(self):
        self.assert_second(True, PAIR)
        self.assert_editions(True, PAIR)
        self.assert_second(True, ("narrow", (), ()))

    def test_wrong_forms(self):
        for edition in NO_TUPLES + ((), ("wide",), ("wide", ()), ("wide", (), (), ()), ["wide", (), ()]):
            self.assert_second(False, edition)
        for value in NO_TUPLES:
            self.assert_second(False, ("wide", value, ()))
            self.assert_second(False, ("wide", (), value))

    def test_sight(self):
        self.assert_second(True, ("narrow", READS, WRITES))
        for sight in NO_TUPLES + ("either", "both", "Wide", ("wide",)):
            self.assert_second(False, (sight, READS, WRITES))

    def test_sides_of_reads(self):
        for side in ("narrow", "wide", "either"):
            self.assert_second(True, ("wide", (("id", side, ()),), ()))
        for side in NO_TUPLES + ("both", "narrow first", ("wide",)):
            self.assert_second(False, ("wide", (("id", side, ()),), ()))

    def test_deeds(self):
        for deeds in (
            (),
            ("match",),
            ("order",),
            ("show",),
            ("match", "order"),
            ("match", "show"),
            ("match", "order", "show"),
        ):
            self.assert_second(True, ("wide", (("id", "wide", deeds),), ()))
        wrong = (("order", "match"), ("show", "show"), ("match", "order", "order"), ("read",), ("",), ("match", 1))
        for deeds in NO_TUPLES + wrong + (["match"], "match", (("match",),), (BYTE,)):
            self.assert_second(False, ("wide", (("id", "wide", deeds),), ()))

    def test_rows_of_reads(self):
        row = ("id", "wide", ())
        other = ("ref", "wide", ())
        self.assert_second(True, ("wide", (row, other), ()))
        for reads in ((other, row), (row, row), (row, ("id", "narrow", ()))):
            self.assert_second(False, ("wide", reads, ()))
        for wrong in NO_TUPLES + (("id", "wide"), ("id", "wide", (), 0), ["id", "wide", ()], (), (BYTE, "wide", ())):
            self.assert_second(False, ("wide", (wrong,), ()))
        for column in NO_TUPLES + ("no", "Id", ("id",)):
            if column != "id":
                self.assert_second(False, ("wide", ((column, "wide", ()),), ()))

    def test_hows(self):
        for how in ("narrow", "wide", "both", "narrow first", "wide first"):
            self.assert_second(True, ("wide", (), (("id", how, "cut", "", 1),)))
        for how in NO_TUPLES + ("either", "both first", ("wide",)):
            self.assert_second(False, ("wide", (), (("id", how, "cut", "", 1),)))

    def test_rules(self):
        for rule in ("cut", "empty", "refuse"):
            self.assert_second(True, ("wide", (), (("id", "wide", rule, "", 1),)))
        for rule in NO_TUPLES + ("none", "anew", ("cut",)):
            self.assert_second(False, ("wide", (), (("id", "wide", rule, "", 1),)))

    def test_paces(self):
        for pace in (0, 1, 98, 99):
            self.assert_second(True, ("wide", (), (("id", "wide", "cut", "", pace),)))
        for pace in (True, False, None, -1, 100, "1", (1,), [], {}, 10 ** 17, BYTE):
            self.assert_second(False, ("wide", (), (("id", "wide", "cut", "", pace),)))

    def test_sources(self):
        writes = (("id", "wide", "cut", "ref", 1),)
        # It is another column, which this edition reads.
        self.assert_second(True, ("wide", (("ref", "wide", ()),), writes))
        self.assert_second(False, ("wide", (("id", "wide", ()),), writes))
        self.assert_second(False, ("wide", (), writes))
        self.assert_editions(False, ("wide", (("ref", "narrow", ()),), ()), ("wide", (), writes))
        for source in ("id", "no", True, False, None, 0, 1, [], {}, (), ("ref",), BYTE):
            row = ("id", "wide", "cut", source, 1)
            self.assert_second(False, ("wide", (("id", "wide", ()), ("ref", "wide", ())), (row,)))
        # Two columns may be the sources of each other.
        both = (("id", "wide", "cut", "ref", 1), ("ref", "wide", "cut", "id", 1))
        self.assert_second(True, ("wide", (("id", "wide", ()), ("ref", "wide", ())), both))

    def test_rows_of_writes(self):
        row = ("id", "wide", "cut", "", 1)
        other = ("ref", "wide", "cut", "", 1)
        self.assert_second(True, ("wide", (), (row, other)))
        for writes in ((other, row), (row, row), (row, ("id", "wide", "refuse", "", 1))):
            self.assert_second(False, ("wide", (), writes))
        for wrong in NO_TUPLES + (row[:4], row + (0,), list(row), (), (BYTE,) + row[1:]):
            self.assert_second(False, ("wide", (), (wrong,)))
        for column in NO_TUPLES + ("no", "Id", ("id",)):
            if column != "id":
                self.assert_second(False, ("wide", (), ((column, "wide", "cut", "", 1),)))

    def test_columns_are_of_the_world(self):
        self.assert_editions(False, PAIR, columns=("id",))
        self.assert_editions(True, PAIR, columns=("id", "key", "ref"))


class FirstEditionTest(WorldCase):
    def test_reads(self):
        for side, good in (("narrow", True), ("either", True), ("wide", False)):
            self.assert_editions(good, ("wide", (("id", side, ()),), ()))
            self.assert_editions(good, ("wide", (("id", "narrow", ()), ("ref", side, ())), ()))

    def test_writes(self):
        hows = {"narrow": True, "wide": False, "both": False, "narrow first": False, "wide first": False}
        for how, good in hows.items():
            self.assert_editions(good, ("wide", (), (("id", how, "cut", "", 1),)))
            writes = (("id", "narrow", "cut", "", 1), ("ref", how, "cut", "", 1))
            self.assert_editions(good, ("narrow", (), writes))

    def test_each_program_has_one(self):
        plain, wide = ("narrow", (), ()), ("wide", (("id", "wide", ()),), ())
        self.assert_good(BYTE, SHORT, ("id",), (("a", (plain, wide)), ("b", (plain, wide))))
        self.assert_bad(BYTE, SHORT, ("id",), (("a", (plain, wide)), ("b", (wide, plain))))


class TwoEventsTest(WorldCase):
    def test_at_most_two_rows_in_one_edition(self):
        columns = ("a", "b", "c")
        plain = ("narrow", (), ())
        for hows, good in (
            (("narrow first", "wide first", "both"), True),
            (("wide first", "wide", "narrow first"), True),
            (("narrow first", "narrow first", "narrow first"), False),
            (("wide first", "narrow first", "wide first"), False),
        ):
            writes = tuple([(column, how, "cut", "", 1) for column, how in zip(columns, hows)])
            self.assert_editions(good, plain, ("wide", (), writes), columns=columns)

    def test_at_most_two_rows_in_all_editions_and_programs(self):
        plain = ("narrow", (), ())
        one = ("wide", (), (("id", "narrow first", "cut", "", 1),))
        other = ("wide", (), (("id", "wide first", "cut", "", 1),))
        self.assert_editions(True, plain, one, other)
        self.assert_good(BYTE, SHORT, ("id",), (("a", (plain, one)), ("b", (plain, other))))
        self.assert_bad(BYTE, SHORT, ("id",), (("a", (plain, one)), ("b", (plain, other, one))))
        self.assert_bad(
            BYTE, SHORT, ("id",), (("a", (plain, one)), ("b", (plain, other)), ("c", (plain, plain, one)))
        )


class ValuesTest(WorldCase):
    def test_attributes_are_as_they_were_passed(self):
        programs = (("shop", (ELDER, DOUBLE, NEWER)),)
        self.assert_good(BYTE, SHORT, ("id",), programs)

    def test_arguments_by_name(self):
        programs = (("shop", (ELDER,)),)
        world = World(programs=programs, columns=("id",), wide=SHORT, narrow=BYTE)
        self.assertEqual(world, World(BYTE, SHORT, ("id",), programs))
        with self.assertRaises(BadWorld) as caught:
            World(programs=1, columns=2, wide=3, narrow=4)
        self.assertEqual(caught.exception.value, (4, 3, 2, 1))

    def test_equal_worlds(self):
        self.assertTrue(SHOP == world_of(ELDER, DOUBLE, NEWER, narrow=Kind.unsigned(8), wide=Kind.unsigned(16)))
        self.assertFalse(SHOP != world_of(ELDER, DOUBLE, NEWER))
        for other in (
            world_of(ELDER, DOUBLE, NEWER, narrow=Kind(0, 254)),
            world_of(ELDER, DOUBLE, NEWER, wide=Kind(0, 65536)),
            world_of(ELDER, DOUBLE, NEWER, columns=("id", "ref")),
            world_of(ELDER, DOUBLE),
        ):
            self.assertTrue(SHOP != other)
            self.assertFalse(SHOP == other)

    def test_worlds_equal_nothing_else(self):
        parts = (SHOP.narrow, SHOP.wide, SHOP.columns, SHOP.programs)
        for value in NO_TUPLES + (parts, list(parts), {"world": SHOP}):
            self.assertIs(SHOP == value, False)
            self.assertIs(SHOP != value, True)

    def test_wrong_values_everywhere(self):
        for value in NO_TUPLES:
            self.assert_bad(value, value, value, value)
        self.assert_bad((), (), (), ())
        self.assert_bad(nested(20), nested(19), nested(18), nested(17))

    def test_kinds_within(self):
        self.assert_bad(BYTE, SHORT, (BYTE,), (("shop", (ELDER,)),))
        self.assert_bad(BYTE, SHORT, ("id",), ((BYTE, (ELDER,)),))
        self.assert_bad(BYTE, SHORT, ("id",), (("shop", (BYTE,)),))
        self.assert_bad(BYTE, SHORT, ("id",), (("shop", ((BYTE, BYTE, BYTE),)),))


if __name__ == "__main__":
    unittest.main()
