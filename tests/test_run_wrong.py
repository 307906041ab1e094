"""What makes an event wrong, and which runs show it."""

import unittest

from widerkeys.plays import played
from widerkeys.runs import shows_wrong
from widerkeys.worlds import World

from players import (
    ADD,
    ANEW,
    BYTE,
    DEEDS,
    DROP_NARROW,
    DROP_WIDE,
    FILL,
    NO_UP,
    RELEASE,
    SHOP,
    SHORT,
    UP,
    WITHDRAW,
    begin,
    copier,
    play_on,
    word_of,
    world_of,
)

SPAN = (1, 400)


class WrongCase(unittest.TestCase):
    def assert_word(self, word, run, world, span=SPAN):
        self.assertEqual(word_of(world, span, run), word, run)


class MissingTest(WrongCase):
    def second(self, reads, writes):
        """A world whose first edition reads and writes nothing."""
        return world_of(("wide", (), ()), ("wide", reads, writes))

    def assert_missing(self, wanted, run, reads, writes):
        self.assert_word("missing" if wanted else "", run, self.second(reads, writes))

    def test_reads(self):
        for side, narrow_lacks, wide_lacks in (
            ("narrow", True, False),
            ("wide", False, True),
            ("either", False, False),
        ):
            for deeds in ((), DEEDS):
                reads = (("id", side, deeds),)
                self.assert_missing(narrow_lacks, begin(ADD, RELEASE, DROP_NARROW), reads, ())
                self.assert_missing(wide_lacks, begin(ADD, RELEASE, DROP_WIDE), reads, ())
                self.assert_missing(wide_lacks, (("begin", RELEASE),), reads, ())
                self.assert_missing(False, begin(ADD, RELEASE), reads, ())

    def test_writes(self):
        for how, narrow_lacks, wide_lacks in (
            ("narrow", True, False),
            ("wide", False, True),
            ("both", True, True),
            ("narrow first", True, True),
            ("wide first", True, True),
        ):
            writes = (("id", how, "cut", "", 1),)
            self.assert_missing(narrow_lacks, begin(ADD, RELEASE, DROP_NARROW), (), writes)
            self.assert_missing(wide_lacks, begin(ADD, RELEASE, DROP_WIDE), (), writes)
            self.assert_missing(wide_lacks, (("begin", RELEASE),), (), writes)
            self.assert_missing(False, begin(ADD, RELEASE), (), writes)

    def test_of_editions_that_run_alone(self):
        reads = (("id", "wide", ()),)
        self.assert_missing(False, begin(ADD, RELEASE, WITHDRAW, DROP_WIDE), reads, ())
        self.assert_missing(True, begin(ADD, RELEASE, WITHDRAW, DROP_WIDE) + (("begin", RELEASE),), reads, ())
        self.assert_missing(False, begin(ADD, DROP_NARROW, RELEASE), reads, ())

    def test_of_one_of_several_columns(self):
        reads = (("id", "wide", ()), ("ref", "wide", ()))
        world = world_of(("wide", (), ()), ("wide", reads, ()), columns=("id", "key", "ref"))
        self.assert_word("missing", begin(ADD) + (("begin", RELEASE),), world)
        self.assert_word("missing", begin(("add", "ref")) + (("begin", RELEASE),), world)
        self.assert_word("", begin(ADD, ("add", "ref"), RELEASE), world)

    def test_of_one_of_several_programs(self):
        plain, reader = ("wide", (), ()), ("wide", (("id", "wide", ()),), ())
        world = World(BYTE, SHORT, ("id",), (("bank", (plain, plain)), ("shop", (plain, reader))))
        self.assert_word("", begin(("release", "bank")), world)
        self.assert_word("missing", begin(("release", "bank")) + (("begin", RELEASE),), world)

    def test_each_time(self):
        world = self.second((("id", "wide", ()),), ())
        run = (("there", "id", 0, 5), *begin(RELEASE, ("grow", 500)), ("read", "shop", 1, "id", 0), *begin(ADD))
        _, words = play_on(world, SPAN, run + begin(DROP_WIDE, WITHDRAW))
        wanted = ["", "missing", "missing", "missing", "none", "", "missing", "missing", ""]
        self.assertEqual(words, wanted)

    def test_the_first_moment_and_other_events(self):
        # Only with a begin or an end a moment begins.
        world = self.second((("id", "wide", ()),), (("id", "wide", "cut", "", 1),))
        run = (("begin", RELEASE), ("set", "shop", 1, "id", 0, 9), ("end", RELEASE))
        self.assertEqual(play_on(world, SPAN, run)[1], ["missing", "", "missing"])


class ReadTest(WrongCase):
    READS = {side: (("id", side, ("show",)),) for side in ("narrow", "wide", "either")}

    def world(self, side, sight="wide", how="both", rule="cut"):
        elder = ("wide", (("id", "narrow", ()),), (("id", "narrow", rule, "", 1),))
        return world_of(elder, (sight, self.READS[side], (("id", how, rule, "", 1),)))

    def assert_read(self, word, answer, run, world):
        run = run + (("read", "shop", 1, "id", 0),)
        self.assert_word(word, run, world)
        store, _ = play_on(world, SPAN, run[:-1])
        self.assertEqual(played(store, run[-1]), (word, answer))

    def test_none(self):
        run = (("there", "id", 0, 5),) + begin(ADD, RELEASE)
        self.assert_read("none", None, run, self.world("wide"))
        self.assert_read("", 5, run, self.world("narrow"))
        self.assert_read("", 5, run, self.world("either"))

    def test_either_takes_the_wide_side_if_it_is_not_empty(self):
        run = (("there", "id", 0, 5),) + begin(ADD, RELEASE)
        run = run + (("set", "shop", 1, "id", 0, 7),)
        self.assert_read("", 7, run, self.world("either", how="wide"))
        self.assert_read("", 7, run, self.world("either", how="narrow"))
        # The wide side, not empty, is taken, whatever is meant.
        older = (("set", "shop", 1, "id", 0, 9), ("begin", WITHDRAW), ("set", "shop", 0, "id", 0, 7))
        self.assert_read("old", 9, run + older, self.world("either"))
        self.assert_read("", 7, run + older, self.world("narrow"))

    def test_either_without_a_wide_side(self):
        run = (("there", "id", 0, 5),)
        world = world_of(("wide", (("id", "either", DEEDS),), ()))
        self.assert_word("", run + (("read", "shop", 0, "id", 0),), world)
        self.assert_word("", run + begin(ADD, DROP_WIDE) + (("read", "shop", 0, "id", 0),), world)
        self.assert_word("none", run + begin(ADD, DROP_NARROW) + (("read", "shop", 0, "id", 0),), world)

    def test_old(self):
        run = (("there", "id", 0, 5),) + begin(ADD, RELEASE) + (("set", "shop", 1, "id", 0, 7),)
        self.assert_read("old", 5, run, self.world("narrow", how="wide"))
        self.assert_read("", 7, run, self.world("wide", how="wide"))
        self.assert_read("", 7, run, self.world("narrow"))

    def test_another_great_number(self):
        run = begin(ADD, RELEASE) + (("set", "shop", 1, "id", 0, 300), ("begin", WITHDRAW))
        run = run + (("set", "shop", 0, "id", 0, 9),)
        self.assert_read("old", 300, run, self.world("wide"))

    def test_the_cut_of_another_great_number(self):
        elder = ("wide", (), (("id", "narrow", "cut", "", 1),))
        writer, reader = ("wide", (), (("id", "wide", "cut", "", 1),)), ("narrow", self.READS["wide"], ())
        world = World(BYTE, SHORT, ("id",), (("bank", (elder, writer)), ("shop", (elder, reader))))
        run = begin(ADD, RELEASE) + (("begin", ("release", "bank")), ("set", "bank", 1, "id", 0, 300))
        # 300 is held as 44, which is the number meant, its cut, or another one.
        for number, word in ((44, ""), (300, "show"), (9, "old")):
            change = ("set", "bank", 0, "id", 0, number)
            self.assert_read(word, 44, run + (change,), world)

    def test_exact_by_chance(self):
        # The old number is alike the one that is meant now.
        run = (("there", "id", 0, 5),) + begin(ADD, RELEASE) + (("set", "shop", 1, "id", 0, 5),)
        self.assert_read("", 5, run, self.world("narrow", how="wide"))

    def test_show(self):
        run = begin(ADD, RELEASE) + (("set", "shop", 1, "id", 0, 300),)
        self.assert_read("show", 44, run, self.world("narrow"))
        # Held cut by its sight.
        sets = begin(ADD) + (("begin", RELEASE), ("set", "shop", 0, "id", 0, 300))
        self.assert_read("show", 44, sets, self.world("narrow", "narrow"))
        self.assert_read("", 300, run, self.world("wide"))
        self.assert_read("", 300, run, self.world("either"))

    def test_cut_by_sight(self):
        elder = ("wide", (), ())
        writer = ("wide", (), (("id", "wide", "cut", "", 1),))
        for deeds, word in (((), ""), (("match", "order"), ""), (("show",), "show")):
            for sight, wanted in (("narrow", word), ("wide", "")):
                reader = (sight, (("id", "wide", deeds),), ())
                world = world_of(elder, writer, reader)
                run = begin(ADD, RELEASE) + (("set", "shop", 1, "id", 0, 300), ("begin", RELEASE))
                self.assert_word(wanted, run + (("read", "shop", 2, "id", 0),), world)

    def test_show_needs_the_deed(self):
        for deeds, word in (((), ""), (("match",), ""), (("match", "show"), "show")):
            world = world_of(("wide", (("id", "narrow", deeds),), (("id", "narrow", "cut", "", 1),)))
            run = (("set", "shop", 0, "id", 0, 300), ("read", "shop", 0, "id", 0))
            self.assert_word(word, run, world)

    def test_an_empty_narrow_side(self):
        run = begin(ADD, RELEASE) + (("set", "shop", 1, "id", 0, 300),)
        self.assert_read("none", None, run, self.world("narrow", rule="empty"))


class CopyTest(WrongCase):
    """Edition 1 copies id to ref."""

    def world(self, side, how="both", rule="cut", sight="wide"):
        columns = ("id", "ref")
        elder = ("wide", (("id", "narrow", ()),), (("id", "narrow", "cut", "", 1),))
        newer = (sight, (("id", side, DEEDS),), (("id", "wide", "cut", "", 1), ("ref", how, rule, "id", 1)))
        return world_of(elder, newer, columns=columns)

    RUN = (("there", "id", 0, 5),) + begin(ADD, ("add", "ref"), RELEASE)
    COPY = (("copy", "shop", 1, "ref", 0, 0),)

    def test_none(self):
        self.assert_word("none", self.RUN + self.COPY, self.world("wide"))
        store, _ = play_on(self.world("wide"), SPAN, self.RUN + self.COPY)
        # Nothing is done.
        self.assertNotIn(("ref", 0), store.stock)

    def test_old(self):
        run = self.RUN + (("set", "shop", 1, "id", 0, 7),)
        self.assert_word("old", run + self.COPY, self.world("narrow"))
        self.assert_word("", run + self.COPY, self.world("wide"))
        # It is written all the same.
        store, _ = play_on(self.world("narrow"), SPAN, run + self.COPY)
        self.assertEqual(store.stock[("ref", 0)], (7, 5, 5))

    def test_refused(self):
        run = self.RUN + (("set", "shop", 1, "id", 0, 300),)
        for how in ("narrow", "both", "narrow first"):
            world = self.world("wide", how, "refuse")
            self.assert_word("refused", run + self.COPY, world)
            store, _ = play_on(world, SPAN, run + self.COPY)
            self.assertNotIn(("ref", 0), store.stock)
            self.assertEqual(store.under_way, {})
        for how in ("wide", "wide first"):
            self.assert_word("", run + self.COPY, self.world("wide", how, "refuse"))

    def test_what_is_held_counts(self):
        # With a narrow sight 44 is held for 300, and 44 is not refused.
        world = world_of(
            ("wide", (), ()),
            ("wide", (), (("id", "wide", "cut", "", 1),)),
            ("narrow", (("id", "wide", DEEDS),), (("ref", "both", "refuse", "id", 1),)),
            columns=("id", "ref"),
        )
        run = begin(ADD, ("add", "ref"), RELEASE) + (("set", "shop", 1, "id", 0, 300),) + begin(RELEASE)
        run = run + (("copy", "shop", 2, "ref", 0, 0),)
        self.assert_word("", run, world)
        store, _ = play_on(world, SPAN, run)
        self.assertEqual(store.stock[("ref", 0)], (300, 44, 44))

    def test_old_and_refused_at_once(self):
        # 300 is old, and refused, too.
        world = world_of(
            ("wide", (), (("id", "narrow", "cut", "", 1),)),
            ("wide", (("id", "wide", ()),), (("id", "wide", "cut", "", 1), ("ref", "narrow", "refuse", "id", 1))),
            columns=("id", "ref"),
        )
        run = begin(ADD, RELEASE) + (("set", "shop", 1, "id", 0, 300), ("begin", WITHDRAW))
        self.assert_word("refused", run + self.COPY, world)
        run = run + (("set", "shop", 0, "id", 0, 9),)
        self.assert_word("old", run + self.COPY, world)
        store, _ = play_on(world, SPAN, run + self.COPY)
        self.assertNotIn(("ref", 0), store.stock)

    def test_a_cut_reading_is_not_wrong(self):
        world = world_of(copier("narrow"), columns=("id", "ref"))
        run = (("set", "shop", 0, "id", 0, 300), ("copy", "shop", 0, "ref", 0, 0))
        self.assert_word("", run, world)
        self.assert_word("show", run + (("read", "shop", 0, "ref", 0),), world)


class CompareTest(WrongCase):
    """One edition that sets and compares id and ref by their narrow sides."""

    WORLD = world_of(
        ("wide", (("id", "narrow", DEEDS), ("ref", "narrow", DEEDS)), (("id", "narrow", "cut", "", 1),)),
        columns=("id", "ref"),
    )

    def sets(self, *numbers):
        return tuple([("set", "shop", 0, "id", row, number) for row, number in enumerate(numbers)])

    def assert_match(self, word, answer, *numbers):
        self.assert_outcome((word, answer), self.sets(*numbers), ("match", "shop", 0, "id", 0, "id", 1))

    def assert_order(self, word, answer, *numbers):
        self.assert_outcome((word, answer), self.sets(*numbers), ("order", "shop", 0, "id", 0, 1))

    def assert_outcome(self, outcome, run, event):
        self.assert_word(outcome[0], run + (event,), self.WORLD)
        store, _ = play_on(self.WORLD, SPAN, run)
        self.assertEqual(played(store, event), outcome)

    def test_match(self):
        self.assert_match("", True, 5, 5)
        self.assert_match("", False, 5, 6)
        self.assert_match("", True, 300, 300)
        self.assert_match("", False, 300, 45)
        self.assert_match("match", True, 300, 44)
        self.assert_match("match", True, 44, 300)

    def test_match_of_unlike_readings_of_one_number(self):
        # 300 is held as 300 in one column, and as 44 in the other one: taken for two.
        world = world_of(
            ("wide", (), ()),
            ("wide", (("id", "wide", DEEDS), ("ref", "narrow", DEEDS)), WRITES),
            columns=("id", "ref"),
        )
        run = begin(ADD, ("add", "ref"), RELEASE)
        run = run + (("set", "shop", 1, "id", 0, 300), ("set", "shop", 1, "ref", 0, 300))
        self.assert_word("match", run + (("match", "shop", 1, "id", 0, "ref", 0),), world)
        self.assert_word("match", run + (("match", "shop", 1, "ref", 0, "id", 0),), world)
        run = run + (("set", "shop", 1, "ref", 0, 299),)
        self.assert_word("", run + (("match", "shop", 1, "id", 0, "ref", 0),), world)

    def test_order(self):
        self.assert_order("", True, 5, 6)
        self.assert_order("", False, 6, 5)
        self.assert_order("", False, 5, 5)
        self.assert_order("order", False, 45, 300)
        self.assert_order("order", True, 300, 45)
        self.assert_order("", True, 43, 300)
        self.assert_order("", False, 300, 43)
        # 44 and the cut of 300 are equal, and the first one is not taken for less.
        self.assert_order("order", False, 44, 300)
        self.assert_order("", False, 300, 44)

    def test_cells_of_the_beginning(self):
        run = (("there", "id", 0, 5), ("there", "ref", 0, 5), ("there", "ref", 1, 6))
        self.assert_word("", run + (("match", "shop", 0, "id", 0, "ref", 0),), self.WORLD)
        self.assert_word("", run + (("match", "shop", 0, "id", 0, "ref", 1),), self.WORLD)
        self.assert_word("", run + (("order", "shop", 0, "ref", 0, 1),), self.WORLD)
        self.assert_word("", run + (("order", "shop", 0, "ref", 1, 0),), self.WORLD)


WRITES = (("id", "both", "cut", "", 1), ("ref", "both", "cut", "", 1))


class FirstWordTest(WrongCase):
    """Of two cells the word of the first one that is read empty or old, ahead of match and order."""

    WORLD = world_of(
        ("wide", (), (("id", "narrow", "cut", "", 1),)),
        ("wide", (("id", "wide", DEEDS),), (("id", "both", "cut", "", 1),)),
    )

    # Row 0 is good, 1 empty and 2 old, as edition 1 reads them; rows 3 and 2 are held alike, 300.
    RUN = begin(ADD, RELEASE) + (
        ("set", "shop", 1, "id", 0, 5),
        ("set", "shop", 1, "id", 2, 300),
        ("set", "shop", 1, "id", 3, 300),
        ("begin", WITHDRAW),
        ("set", "shop", 0, "id", 1, 6),
        ("set", "shop", 0, "id", 2, 7),
    )

    def test_one_is_wrong(self):
        for other, word in ((1, "none"), (2, "old"), (3, "")):
            self.assert_pair(word, 0, other)
            self.assert_pair(word, other, 0)

    def test_both_are_wrong(self):
        self.assert_pair("none", 1, 2)
        self.assert_pair("old", 2, 1)

    def test_ahead_of_match_and_order(self):
        # Held alike and meant unlike; but old.
        self.assert_pair("old", 2, 3)
        self.assert_pair("old", 3, 2)

    def test_an_empty_one_is_taken_for_unlike(self):
        for pair in ((0, 1), (1, 0), (1, 2), (2, 1)):
            for event in (("match", "shop", 1, "id", pair[0], "id", pair[1]), ("order", "shop", 1, "id", *pair)):
                store, _ = play_on(self.WORLD, SPAN, self.RUN)
                self.assertIs(played(store, event)[1], False)

    def assert_pair(self, word, one, other):
        self.assert_word(word, self.RUN + (("match", "shop", 1, "id", one, "id", other),), self.WORLD)
        self.assert_word(word, self.RUN + (("order", "shop", 1, "id", one, other),), self.WORLD)


class RefusedTest(WrongCase):
    def test_sets_comes_and_visits(self):
        elder = ("wide", (), (("id", "narrow", "refuse", "", 1),))
        newer = ("wide", (), (("id", "wide first", "refuse", "", 1),))
        world = world_of(elder, newer)
        great = ("set", "shop", 1, "id", 0, 300)
        self.assert_word("refused", (("set", "shop", 0, "id", 0, 300),), world)
        self.assert_word("refused", begin(ADD, RELEASE) + (great, ("come", "shop", 1, "id", 0, 300)), world)
        back = ("fill back", "id", "empty", "refuse")
        self.assert_word("refused", begin(ADD, RELEASE) + (great, ("begin", back), ("visit", 0)), world)

    def test_nothing_is_done(self):
        elder = ("wide", (("id", "narrow", ()),), (("id", "narrow", "refuse", "", 1),))
        newer = ("wide", (), (("id", "wide first", "refuse", "", 1),))
        world = world_of(elder, newer)
        store, _ = play_on(world, SPAN, (("there", "id", 0, 5), ("set", "shop", 0, "id", 0, 300)))
        self.assertEqual(store.stock, {("id", 0): (5, 5, None)})
        run = (("set", "shop", 0, "id", 0, 300), ("read", "shop", 0, "id", 0))
        self.assertEqual(play_on(world, SPAN, run)[1], ["refused", None])
        # A number that was refused is late still, and a refused visit is none.
        late = begin(ADD, RELEASE) + (("set", "shop", 1, "id", 0, 300), ("come", "shop", 1, "id", 0, 300))
        store, words = play_on(world, SPAN, late + late[-1:])
        self.assertEqual(words[-2:], ["refused", "refused"])
        self.assertEqual(store.under_way, {("id", 0): [("shop", 1, 300)]})
        back = ("fill back", "id", "empty", "refuse")
        visits = (("begin", back), ("visit", 0), ("end", back))
        self.assertEqual(play_on(world, SPAN, late[:-1] + visits)[1][-2:], ["refused", None])

    def test_a_refused_event_is_an_event(self):
        world = world_of(("wide", (), (("id", "narrow", "refuse", "", 1),)))
        run = (("set", "shop", 0, "id", 0, 300), ("there", "id", 0, 5))
        self.assertEqual(play_on(world, SPAN, run)[1], ["refused", None])


class ShowsWrongTest(unittest.TestCase):
    PLAN = (ADD, RELEASE, FILL, RELEASE, ("grow", 40000), DROP_NARROW)
    RUN = (
        ("begin", ADD),
        ("begin", RELEASE),
        ("set", "shop", 1, "id", 0, 5),
        ("set", "shop", 0, "id", 0, 7),
        ("end", RELEASE),
        ("begin", FILL),
        ("visit", 0),
        ("end", FILL),
        ("begin", RELEASE),
        ("read", "shop", 2, "id", 0),
    )

    def shows(self, run, plan=PLAN):
        return shows_wrong(SHOP, (1, 200), plan, run)

    def test_the_example(self):
        self.assertEqual([self.shows(self.RUN), self.shows(self.RUN[:-1])], [True, False])

    def test_it_returns_bools(self):
        self.assertIs(self.shows(self.RUN), True)
        for many in range(len(self.RUN)):
            self.assertIs(self.shows(self.RUN[:many]), False)

    def test_one_event_left_out(self):
        for index in range(len(self.RUN)):
            self.assertFalse(self.shows(self.RUN[:index] + self.RUN[index + 1 :]), index)

    def test_one_event_doubled(self):
        found = [self.shows(self.RUN[: index + 1] + self.RUN[index:]) for index in range(len(self.RUN))]
        self.assertEqual(found, [False, False, True, True, False, False, True, False, False, False])

    def test_one_event_changed(self):
        for index, event, wanted in (
            (0, ("begin", RELEASE), False),
            (0, ["begin", ADD], False),
            (1, ("begin", FILL), False),
            (2, ("set", "shop", 1, "id", 0, 7), False),
            (2, ("set", "shop", 1, "id", 0, 8), True),
            (2, ("set", "shop", 1, "id", 1, 5), False),
            (2, ("set", "shop", 1, "id", 0, 201), False),
            (2, ("set", "shop", 0, "id", 0, 5), False),
            (3, ("set", "shop", 1, "id", 0, 7), False),
            (3, ("set", "shop", 0, "id", 0, 5), False),
            (3, ("set", "shop", 0, "id", 0, 200), True),
            (3, ("set", "shop", 0, "id", 0, 0), False),
            (3, ("set", "shop", False, "id", 0, 7), False),
            (4, ("end", ADD), False),
            (5, ("begin", ANEW), False),
            (6, ("visit", 1), False),
            (6, ("visit", False), False),
            (6, ("read", "shop", 1, "id", 0), False),
            (7, ("end", ANEW), False),
            (8, ("begin", ("grow", 40000)), False),
            (9, ("read", "shop", 1, "id", 0), False),
            (9, ("read", "shop", 2, "id", 1), False),
            (9, ("begin", ("grow", 40000)), False),
            (9, ("end", RELEASE), False),
        ):
            run = self.RUN[:index] + (event,) + self.RUN[index + 1 :]
            self.assertIs(self.shows(run), wanted, event)

    def test_the_fill_anew_mends_it(self):
        plan = (ADD, RELEASE, ANEW, RELEASE, ("grow", 40000), DROP_NARROW)
        run = self.RUN[:5] + (("begin", ANEW), ("visit", 0), ("end", ANEW)) + self.RUN[8:]
        self.assertFalse(self.shows(run, plan))
        # Amid the fill an edition 0 that ran on would spoil it, but it does not run.
        self.assertFalse(self.shows(run[:7] + (("set", "shop", 0, "id", 0, 9),) + run[7:], plan))

    def test_only_the_last_event_is_wrong(self):
        read = self.RUN[-1]
        self.assertFalse(self.shows(self.RUN + (read,)))
        self.assertFalse(self.shows(self.RUN + (("end", RELEASE),)))
        self.assertFalse(self.shows(self.RUN + (("set", "shop", 2, "id", 0, 5), read)))

    def test_more_events_that_are_not_wrong(self):
        fine = (("read", "shop", 1, "id", 0), ("set", "shop", 1, "id", 4, 200), ("read", "shop", 2, "id", 4))
        self.assertTrue(self.shows(self.RUN[:-1] + fine + self.RUN[-1:]))

    def test_a_run_of_the_first_steps_alone(self):
        for many in range(4, 7):
            self.assertTrue(self.shows(self.RUN, self.PLAN[:many]))
        for many in range(4):
            self.assertFalse(self.shows(self.RUN, self.PLAN[:many]))
        self.assertTrue(self.shows(self.RUN, self.PLAN[:4] + (("drop", "id", "wide"), ADD)))

    def test_the_whole_plan(self):
        # The double writer, withdrawn to, misses the narrow side; without it nothing does.
        run = begin(*self.PLAN[:5])
        self.assertFalse(self.shows(run))
        self.assertFalse(self.shows(run + begin(DROP_NARROW)))
        plan = self.PLAN + (WITHDRAW,)
        self.assertTrue(self.shows(run + begin(DROP_NARROW) + (("begin", WITHDRAW),), plan))
        self.assertFalse(self.shows(run + begin(DROP_NARROW, WITHDRAW), plan))

    def test_mirrors(self):
        # What the elder edition writes is doubled as long as the mirror up is on.
        plan = (ADD, UP, FILL, NO_UP, RELEASE, RELEASE)
        ahead = (("there", "id", 0, 5), *begin(ADD, UP), ("begin", FILL), ("visit", 0), ("end", FILL))
        after = (*begin(RELEASE), ("begin", RELEASE), ("read", "shop", 2, "id", 0))
        late, off = ("set", "shop", 0, "id", 0, 8), ("begin", NO_UP)
        self.assertFalse(self.shows(ahead + (off,) + after, plan))
        self.assertFalse(self.shows(ahead + (late, off) + after, plan))
        self.assertTrue(self.shows(ahead + (off, late) + after, plan))

    def test_equal_calls(self):
        self.assertEqual([self.shows(self.RUN), self.shows(self.RUN)], [True, True])

    def test_a_run_of_another_world(self):
        world = world_of(*SHOP.programs[0][1][:2])
        self.assertFalse(shows_wrong(world, (1, 200), self.PLAN[:3], self.RUN))
        other = World(BYTE, SHORT, ("key",), (("bank", (("wide", (), ()),)),))
        self.assertFalse(shows_wrong(other, (1, 200), (), self.RUN))


if __name__ == "__main__":
    unittest.main()
