"""What comes of marks, and what is wrong with them, in whatever sequence they are looked at."""

import unittest

import second
from widerkeys.faults import fault_of
from widerkeys.growths import grown, root
from widerkeys.judging import shows_safe
from widerkeys.scenes import Scene
from widerkeys.steps import moments
from widerkeys.worlds import World

from players import ADD, ANEW, BYTE, RELEASE, SHORT, world_of
from test_judging import JudgedCase, writer

IDLE = ("wide", (), ())


def grown_of(world, span, plan, *begins):
    """The growth of the last moment of a plan, if it begins with these (column, mark)."""
    scene = Scene(world, moments(world, span, plan)[-1])
    return grown(scene, 0, [root(column, mark) for column, mark in begins])


class SequenceTest(unittest.TestCase):
    def assert_all_sequences(self, world, span, plan, begins, check):
        for order in (begins, begins[::-1], begins[1:] + begins[:1]):
            check(grown_of(world, span, plan, *order))

    def test_lower_tops_behind_greater_ones(self):
        reads = (("id", "narrow", ()),)
        world = World(BYTE, SHORT, ("id", "ref"), (("shop", (("wide", reads, (("ref", "narrow", "cut", "id", 1),)),)),))
        begins = [("id", ("small", 255, "same", "old", (), "")), ("id", ("small", 200, "same", "same", (), ""))]

        def check(growth):
            self.assertEqual(growth.greatest()[1], (("small", 255, "same", "none", (), ""),))

        self.assert_all_sequences(world, (1, 300), (ADD, ("add", "ref")), begins, check)

    def test_lower_tops_ahead_of_what_is_written_over(self):
        # The cell of ref comes last, and what is copied over it has the greater top.
        reads = (("id", "narrow", ()),)
        world = World(BYTE, SHORT, ("id", "ref"), (("shop", (IDLE, ("wide", reads, (("ref", "wide", "cut", "id", 1),)))),))
        tops = [("id", ("small", top, "same", word, (), "")) for top, word in ((255, "old"), (200, "same"))]
        for begins in (tops, tops[::-1]):
            plan = (ADD, ("add", "ref"), RELEASE)
            table = grown_of(world, (1, 300), plan, *begins, ("ref", ("small", 255, "same", "none", (), ""))).greatest()
            self.assertIn(("small", 255, "old", "same", (), ""), table[1])

    def test_marks_beside_each_other(self):
        late = lambda *words: tuple(("shop", 1, word) for word in words)
        world = world_of(IDLE, writer("narrow first"))
        marks = [
            ("small", 255, "old", "same", (), ""),
            ("small", 200, "old", "same", late("far"), ""),
            ("small", 100, "old", "same", late("far", "old"), ""),
            ("small", 150, "old", "same", late("old"), ""),
            ("small", 90, "old", "same", late("old"), ""),
            ("small", 100, "old", "same", late("far"), ""),
        ]
        for at in range(6):
            begins = [("id", mark) for mark in marks[at:] + marks[:at]]
            table = grown_of(world, (1, 300), (ADD, RELEASE), *begins).greatest()
            # Nothing else leads to such sides.
            self.assertEqual([mark for mark in table[0] if mark[2:4] == ("old", "same")], sorted(marks[:4]))

    def test_the_greatest_tops_are_compared(self):
        for deed in ("match", "order"):
            world = world_of(("wide", (("id", "narrow", (deed,)),), ()))
            # From 256 to 511 no two numbers have one cut, from 256 to 512 two have.
            for low, high, wrong in ((300, 511, False), (300, 512, True), (512, 300, True)):
                marks = [("great", top, "cut", word, (), "") for top, word in ((low, "none"), (high, "same"))]

                def check(growth):
                    self.assertIs(fault_of(growth) is not None, wrong, (low, high))

                self.assert_all_sequences(world, (1, 600), (ADD,), [("id", mark) for mark in marks], check)


class BesideTest(JudgedCase):
    def assert_as_second(self, world, span, plan):
        found, wrong = second.judge(world, span, plan)
        self.assertIs(wrong, False)
        tables = self.assert_safe(world, span, plan)
        self.assertEqual(tables, tuple(second.greatest(marks) for marks in found))
        return tables

    def test_late_words_beside_each_other(self):
        # The wide side of id has cuts by the fill, and great numbers by the newer edition.
        reads = (("id", "wide", ()),)
        copier = ("wide", reads, (("ref", "narrow first", "cut", "id", 1),))
        elder = ("wide", (), (("id", "narrow", "cut", "", 1),))
        programs = (("a", (elder, IDLE, writer("wide"))), ("b", (IDLE, copier)))
        world = World(BYTE, SHORT, ("id", "ref"), programs)
        plan = (ADD, ("add", "ref"), ("release", "a"), ANEW, ("release", "a"), ("release", "b"), ("grow", 500))
        table = self.assert_as_second(world, (256, 400), plan)[-1]
        late = lambda *words: tuple(("b", 1, word) for word in words)
        kin = [mark[4] for mark in table[1] if mark[2:4] == ("cut", "old") and mark[1] == 500]
        self.assertEqual(kin, [late("far", "old", "same")])
        kin = [mark[4] for mark in table[1] if mark[2:4] == ("cut", "old") and mark[1] == 400]
        self.assertEqual(kin, [late("cut", "far", "old")])

    def test_purges_that_leave_one_number(self):
        world = world_of(IDLE)
        plan = (("grow", 255), ("purge", 20))
        # With a lower top a mark can have a single number left, which has to be in the next table, too.
        mark = ("small", 20, "old", "none", (), "")
        tables = self.assert_safe(world, (1, 200), plan)
        for last, good in (((mark,), True), ((), False)):
            told = tuple((tuple(sorted(table[0] + more)),) for table, more in zip(tables, ((), (mark,), last)))
            self.assertIs(shows_safe(world, (1, 200), plan, told), good)


if __name__ == "__main__":
    unittest.main()
