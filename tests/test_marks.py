import unittest

from widerkeys.kinds import Kind
from widerkeys.marks import is_mark, within
from widerkeys.worlds import World

from players import BYTE, SHOP, SHORT, world_of
from samples import nested

PLAIN = ("wide", (), ())
IN_TWO = ("wide", (), (("id", "narrow first", "cut", "", 1),))
TURNED = ("wide", (), (("id", "both", "cut", "", 1), ("ref", "wide first", "cut", "", 1)))

# Edition 1 of bank and edition 2 of shop write in two events.
LATE = World(BYTE, SHORT, ("id", "ref"), (("bank", (PLAIN, IN_TWO)), ("shop", (PLAIN, PLAIN, TURNED))))

SMALL = ("small", 200, "same", "none", (), "")
GREAT = ("great", 300, "none", "same", (), "")


def changed(mark, index, value):
    return mark[:index] + (value,) + mark[index + 1 :]


class FormTest(unittest.TestCase):
    def assert_marks(self, good, *marks, world=LATE):
        for mark in marks:
            self.assertIs(is_mark(world, mark), good, mark)

    def test_plain_ones(self):
        self.assert_marks(True, SMALL, GREAT)
        self.assert_marks(True, SMALL, GREAT, world=SHOP)

    def test_other_values(self):
        others = (True, False, None, -1, "", "small", (), [], {}, nested(20), BYTE, SHOP)
        self.assert_marks(False, *others, list(SMALL), SMALL[:5], SMALL + ("",), (SMALL,), {"small": 200}, SMALL[1:])
        for mark in (SMALL, GREAT):
            for index in range(6):
                for value in others:
                    if value != mark[index]:
                        self.assert_marks(False, changed(mark, index, value))
                self.assert_marks(False, mark[:index] + mark[index + 1 :], changed(mark, index, mark))

    def test_meant(self):
        self.assert_marks(False, changed(SMALL, 0, "great"), changed(GREAT, 0, "small"))
        self.assert_marks(False, changed(SMALL, 0, "wide"), changed(SMALL, 0, "Small"), changed(SMALL, 0, "same"))

    def test_tops_of_small_ones(self):
        self.assert_marks(True, *[changed(SMALL, 1, top) for top in (0, 1, 254, 255)])
        self.assert_marks(False, *[changed(SMALL, 1, top) for top in (-1, 256, 300, 10 ** 17, True, "5", None, (5,))])
        world = world_of(PLAIN, narrow=Kind(-8, 7), wide=Kind(-50, 100))
        self.assert_marks(True, *[changed(SMALL, 1, top) for top in (-8, -1, 0, 7)], world=world)
        self.assert_marks(False, *[changed(SMALL, 1, top) for top in (-9, 8, 100)], world=world)

    def test_tops_of_great_ones(self):
        self.assert_marks(True, *[changed(GREAT, 1, top) for top in (256, 257, 65534, 65535)])
        self.assert_marks(False, *[changed(GREAT, 1, top) for top in (255, 0, -1, 65536, 10 ** 17, True, None)])
        world = world_of(PLAIN, narrow=Kind(-8, 7), wide=Kind(-50, 100))
        self.assert_marks(True, *[changed(GREAT, 1, top) for top in (8, 100)], world=world)
        # What is of the wide kind alone, but below the narrow one, is no greater one.
        self.assert_marks(False, *[changed(GREAT, 1, top) for top in (7, 101, -9, -50)], world=world)

    def test_narrow(self):
        for word, small, great in (
            ("none", True, True),
            ("same", True, False),
            ("cut", False, True),
            ("old", True, True),
            ("far", False, False),
        ):
            self.assert_marks(small, changed(SMALL, 2, word))
            self.assert_marks(great, changed(GREAT, 2, word))
        self.assert_marks(False, changed(SMALL, 2, "exact"), changed(SMALL, 2, ""), changed(SMALL, 2, ("same",)))

    def test_wide(self):
        for word, small, great in (
            ("none", True, True),
            ("same", True, True),
            ("cut", False, True),
            ("old", True, True),
            ("far", True, True),
        ):
            self.assert_marks(small, changed(SMALL, 3, word))
            self.assert_marks(great, changed(GREAT, 3, word))
        self.assert_marks(False, changed(SMALL, 3, "exact"), changed(SMALL, 3, ""), changed(SMALL, 3, ["same"]))

    def test_visits(self):
        self.assert_marks(True, *[changed(SMALL, 5, word) for word in ("ahead", "seen", "")])
        self.assert_marks(False, *[changed(SMALL, 5, word) for word in ("visited", " ", "none", None, 0, ())])

    def test_late_words(self):
        for word, small, great in (
            ("none", False, False),
            ("same", True, True),
            ("cut", False, True),
            ("old", True, True),
            ("far", True, True),
            ("", False, False),
            ("seen", False, False),
        ):
            self.assert_marks(small, changed(SMALL, 4, (("bank", 1, word),)))
            self.assert_marks(great, changed(GREAT, 4, (("bank", 1, word),)))
            self.assert_marks(great and small, changed(SMALL, 4, (("bank", 1, "far"), ("shop", 2, word))))

    def test_late_ones_of_rows_in_two_events(self):
        self.assert_marks(True, changed(SMALL, 4, (("bank", 1, "old"),)), changed(SMALL, 4, (("shop", 2, "old"),)))
        for program, edition in (
            ("bank", 0),
            ("bank", 2),
            ("shop", 0),
            ("shop", 1),
            ("shop", 3),
            ("shop", -1),
            ("mall", 1),
            ("bank", True),
            ("bank", "1"),
            ("bank", None),
            (None, 1),
            (["bank"], 1),
            ({}, 1),
        ):
            self.assert_marks(False, changed(SMALL, 4, ((program, edition, "old"),)))
        self.assert_marks(False, changed(SMALL, 4, (("shop", 2, "old"),)), world=SHOP)

    def test_late_ones_ascend(self):
        one, two, three = ("bank", 1, "old"), ("bank", 1, "same"), ("shop", 2, "far")
        for late in ((one, two), (one, three), (two, three), (one, two, three)):
            self.assert_marks(True, changed(SMALL, 4, late))
        for late in ((two, one), (three, one), (one, one), (one, three, two), (one, two, two), (three, two)):
            self.assert_marks(False, changed(SMALL, 4, late))

    def test_wrong_late_ones(self):
        one = ("bank", 1, "old")
        for late in ([one], one, (list(one),), (one[:2],), (one + ("",),), ((one,),), {one: 1}, None, True, "", (None,)):
            self.assert_marks(False, changed(SMALL, 4, late))
        # What cannot be compared is no late one, either.
        for late in ((one, None), (one, 5), (one, (1, 2, 3)), ((1, 2, 3), one), (one, ("bank", "1", "old"))):
            self.assert_marks(False, changed(SMALL, 4, late))

    def test_arguments_by_name(self):
        self.assertIs(is_mark(value=SMALL, world=LATE), True)
        self.assertIs(is_mark(value=None, world=LATE), False)


class WithinTest(unittest.TestCase):
    def assert_within(self, wanted, one, other):
        self.assertIs(within(LATE, one, other), wanted, (one, other))

    def test_equal_ones(self):
        self.assert_within(True, SMALL, SMALL)
        self.assert_within(True, GREAT, GREAT)
        self.assert_within(False, SMALL, GREAT)
        self.assert_within(False, GREAT, SMALL)

    def test_tops(self):
        for one, other, wanted in ((199, 200, True), (200, 200, True), (201, 200, False), (0, 255, True)):
            self.assert_within(wanted, changed(SMALL, 1, one), changed(SMALL, 1, other))
        self.assert_within(True, GREAT, changed(GREAT, 1, 301))
        self.assert_within(False, GREAT, changed(GREAT, 1, 299))

    def test_words(self):
        for index, words in ((2, ("none", "old")), (3, ("none", "same", "old", "far")), (5, ("ahead", "seen", ""))):
            for one in words:
                for other in words:
                    self.assert_within(one == other, changed(SMALL, index, one), changed(SMALL, index, other))
        for one in ("none", "cut", "old"):
            for other in ("none", "cut", "old"):
                self.assert_within(one == other, changed(GREAT, 2, one), changed(GREAT, 2, other))

    def test_late_ones(self):
        one, two, three = ("bank", 1, "old"), ("bank", 1, "same"), ("shop", 2, "far")
        rows = ((), (one,), (two,), (three,), (one, two), (one, three), (two, three), (one, two, three))
        for less in rows:
            for more in rows:
                wanted = all([late in more for late in less])
                self.assert_within(wanted, changed(SMALL, 4, less), changed(SMALL, 4, more))

    def test_all_at_once(self):
        more = changed(changed(SMALL, 1, 255), 4, (("bank", 1, "old"),))
        self.assert_within(True, SMALL, more)
        self.assert_within(False, more, SMALL)
        self.assert_within(False, changed(SMALL, 1, 255), changed(more, 1, 254))
        self.assert_within(False, changed(more, 1, 100), changed(SMALL, 1, 255))

    def test_other_values(self):
        wrong = changed(SMALL, 1, 256)
        for value in (wrong, None, True, 0, "", (), [], {}, list(SMALL), nested(20), BYTE, SHOP, SMALL[:5]):
            self.assert_within(False, value, SMALL)
            self.assert_within(False, SMALL, value)
            self.assert_within(False, value, value)

    def test_marks_of_the_world(self):
        mark = changed(SMALL, 4, (("bank", 1, "old"),))
        self.assertTrue(within(LATE, mark, mark))
        self.assertFalse(within(SHOP, mark, mark))
        self.assertFalse(within(SHOP, SMALL, mark))

    def test_arguments_by_name(self):
        self.assertIs(within(other=changed(SMALL, 1, 255), one=SMALL, world=LATE), True)
        self.assertIs(within(other=SMALL, one=changed(SMALL, 1, 255), world=LATE), False)


if __name__ == "__main__":
    unittest.main()
