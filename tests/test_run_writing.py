"""What stands in the sides behind each way of writing, with mirrors, fills and late numbers."""

import unittest

from widerkeys.kinds import Kind

from players import (
    ADD,
    ANEW,
    DROP_NARROW,
    DROP_WIDE,
    FILL,
    NO_DOWN,
    NO_UP,
    RELEASE,
    UP,
    WITHDRAW,
    begin,
    late_of,
    play_on,
    stock_of,
    word_of,
    world_of,
)

SPAN = (1, 400)
CELL = ("id", 0)
WAYS = ("narrow", "wide", "both", "narrow first", "wide first")
RULES = ("cut", "empty", "refuse")

READS = (("id", "narrow", ()),)


def writer(how, rule="cut"):
    """A world whose first edition writes narrow, and the second one as told."""
    elder = ("wide", READS, (("id", "narrow", "cut", "", 1),))
    return world_of(elder, ("wide", READS, (("id", how, rule, "", 1),)))


def there(number):
    return (("there", "id", 0, number),)


def put(number, edition=1):
    return ("set", "shop", edition, "id", 0, number)


def come(number):
    return ("come", "shop", 1, "id", 0, number)


class WritingCase(unittest.TestCase):
    def assert_stands(self, wanted, run, world, cell=CELL):
        """What is (meant, narrow, wide) in a cell behind a run in which nothing is wrong."""
        self.assertEqual(word_of(world, SPAN, run), "")
        self.assertEqual(stock_of(world, SPAN, run)[cell], wanted, run)

    def assert_refused(self, run, world):
        self.assertEqual(word_of(world, SPAN, run), "refused", run)


class PlainTest(WritingCase):
    """Writing without mirrors."""

    RUN = there(5) + begin(ADD, RELEASE)

    def test_small_numbers(self):
        for rule in RULES:
            self.assert_stands((9, 9, None), self.RUN + (put(9),), writer("narrow", rule))
            self.assert_stands((9, 5, 9), self.RUN + (put(9),), writer("wide", rule))
            self.assert_stands((9, 9, 9), self.RUN + (put(9),), writer("both", rule))
            self.assert_stands((9, 9, None), self.RUN + (put(9),), writer("narrow first", rule))
            self.assert_stands((9, 5, 9), self.RUN + (put(9),), writer("wide first", rule))

    def test_the_ends_of_the_narrow_kind(self):
        for rule, stands in (("cut", 0), ("empty", None)):
            self.assert_stands((256, stands, None), self.RUN + (put(256),), writer("narrow", rule))
            self.assert_stands((256, stands, 256), self.RUN + (put(256),), writer("both", rule))
        self.assert_stands((255, 255, None), self.RUN + (put(255),), writer("narrow", "refuse"))
        self.assert_refused(self.RUN + (put(256),), writer("narrow", "refuse"))

    def test_great_numbers(self):
        for rule, stands in (("cut", 44), ("empty", None)):
            self.assert_stands((300, stands, None), self.RUN + (put(300),), writer("narrow", rule))
            self.assert_stands((300, stands, 300), self.RUN + (put(300),), writer("both", rule))
            self.assert_stands((300, stands, None), self.RUN + (put(300),), writer("narrow first", rule))
            self.assert_stands((300, 5, 300), self.RUN + (put(300),), writer("wide first", rule))
        for rule in RULES:
            self.assert_stands((300, 5, 300), self.RUN + (put(300),), writer("wide", rule))

    def test_refused(self):
        for how in ("narrow", "both", "narrow first"):
            self.assert_refused(self.RUN + (put(300),), writer(how, "refuse"))
        # The wide side takes each number; what comes to the narrow one is refused later.
        self.assert_stands((300, 5, 300), self.RUN + (put(300),), writer("wide first", "refuse"))
        self.assert_refused(self.RUN + (put(300), come(300)), writer("wide first", "refuse"))

    def test_new_cells(self):
        run = begin(ADD, RELEASE)
        for how, wanted in (
            ("narrow", (9, 9, None)),
            ("wide", (9, None, 9)),
            ("both", (9, 9, 9)),
            ("narrow first", (9, 9, None)),
            ("wide first", (9, None, 9)),
        ):
            self.assert_stands(wanted, run + (put(9),), writer(how))

    def test_what_was_written_earlier(self):
        run = self.RUN + (put(9),)
        self.assert_stands((7, 7, None), run + (put(7),), writer("narrow"))
        self.assert_stands((7, 5, 7), run + (put(7),), writer("wide"))
        self.assert_stands((300, None, 300), run + (put(300),), writer("both", "empty"))


class MissingSideTest(WritingCase):
    """What is behind a wrong event goes on all the same, as in an open store."""

    def assert_goes_on(self, wanted, words, run, world):
        store, found = play_on(world, SPAN, run)
        self.assertEqual(found[-len(words) :], words)
        self.assertEqual(store.stock[CELL], wanted)

    def test_what_would_be_written_is_not_nor_refused(self):
        wide = there(5) + begin(ADD, RELEASE, DROP_NARROW) + (put(300),)
        for how in ("narrow", "narrow first"):
            self.assert_goes_on((300, None, None), ["missing", ""], wide, writer(how, "refuse"))
        for how in ("both", "wide first"):
            self.assert_goes_on((300, None, 300), ["missing", ""], wide, writer(how, "refuse"))
        narrow = there(5) + begin(RELEASE) + (put(9),)
        for how in ("wide", "wide first"):
            self.assert_goes_on((9, 5, None), ["missing", "missing", ""], narrow, writer(how, "refuse"))
        for how in ("both", "narrow first"):
            self.assert_goes_on((9, 9, None), ["missing", "missing", ""], narrow, writer(how, "refuse"))

    def test_small_numbers_into_the_narrow_side_that_is_gone(self):
        run = there(5) + begin(ADD, RELEASE, DROP_NARROW) + (put(9),)
        self.assert_goes_on((9, None, None), ["missing", ""], run, writer("narrow", "cut"))
        self.assert_goes_on((9, None, 9), ["missing", ""], run, writer("both", "cut"))

    def test_a_number_is_late_for_a_side_that_is_not_there(self):
        run = there(5) + begin(RELEASE) + (put(9),)
        store, _ = play_on(writer("narrow first"), SPAN, run)
        self.assertEqual(store.under_way, {CELL: [("shop", 1, 9)]})
        self.assert_goes_on((9, 9, None), ["", ""], run + (come(9),), writer("narrow first"))
        self.assert_goes_on((9, 9, 9), ["", "", ""], run + (("begin", ADD), come(9)), writer("narrow first"))

    def test_a_late_number_comes_to_the_side_that_is_left(self):
        run = begin(ADD, RELEASE) + (put(300), ("begin", DROP_NARROW), come(300))
        self.assert_goes_on((300, None, 300), ["", "missing", ""], run, writer("narrow first", "cut"))
        run = begin(ADD, RELEASE) + (put(9), ("begin", DROP_WIDE), come(9))
        self.assert_goes_on((9, 9, None), ["", "missing", ""], run, writer("wide first", "cut"))

    def test_a_late_great_number_is_not_refused_by_a_side_that_is_gone(self):
        run = begin(ADD, RELEASE) + (put(300), ("begin", DROP_NARROW), come(300))
        self.assert_goes_on((300, None, 300), ["", "missing", ""], run, writer("wide first", "refuse"))


class LateTest(WritingCase):
    RUN = there(5) + begin(ADD, RELEASE)

    def test_narrow_first(self):
        for rule, stands in (("cut", 44), ("empty", None)):
            world = writer("narrow first", rule)
            self.assertEqual(late_of(world, SPAN, self.RUN + (put(300),)), {CELL: [("shop", 1, 300)]})
            self.assert_stands((300, stands, 300), self.RUN + (put(300), come(300)), world)
        refusing = writer("narrow first", "refuse")
        self.assertEqual(late_of(refusing, SPAN, self.RUN + (put(9),)), {CELL: [("shop", 1, 9)]})

    def test_wide_first(self):
        for rule, stands in (("cut", 44), ("empty", None)):
            self.assert_stands((300, stands, 300), self.RUN + (put(300), come(300)), writer("wide first", rule))
        self.assert_stands((9, 9, 9), self.RUN + (put(9), come(9)), writer("wide first", "refuse"))

    def test_nothing_is_late_of_other_ways(self):
        for how in ("narrow", "wide", "both"):
            self.assertEqual(late_of(writer(how), SPAN, self.RUN + (put(9),)), {})

    def test_what_came_is_late_no_more(self):
        for how in ("narrow first", "wide first"):
            self.assertEqual(late_of(writer(how), SPAN, self.RUN + (put(9), come(9))), {})

    def test_a_late_number_is_written_over_a_newer_one(self):
        run = self.RUN + (put(9), put(300), come(300), come(9))
        self.assert_stands((300, 44, 9), run, writer("narrow first", "cut"))
        self.assert_stands((300, 9, 300), run, writer("wide first", "cut"))

    def test_a_late_number_of_a_writing_that_is_refused(self):
        world = writer("narrow first", "refuse")
        self.assert_refused(self.RUN + (put(300),), world)

    def test_a_late_number_stays_over_steps(self):
        run = self.RUN + (put(9), ("begin", UP), ("begin", ("grow", 500)), ("begin", FILL), ("visit", 0), ("end", FILL))
        world = writer("wide first")
        self.assertEqual(late_of(world, SPAN, run), {CELL: [("shop", 1, 9)]})
        self.assert_stands((9, 9, 9), run + (come(9),), world)


class UpTest(WritingCase):
    RUN = there(5) + begin(ADD, UP, RELEASE)

    def test_what_is_written_narrow_is_written_wide_too(self):
        for rule, stands in (("cut", 44), ("empty", None)):
            for how in ("narrow", "narrow first"):
                world = writer(how, rule)
                self.assert_stands((9, 9, 9), self.RUN + (put(9),), world)
                # The wide side gets what then stands in the narrow one, be it nothing.
                self.assert_stands((300, stands, stands), self.RUN + (put(9), put(300)), world)

    def test_what_is_refused(self):
        self.assert_refused(self.RUN + (put(300),), writer("narrow", "refuse"))

    def test_other_ways_are_not_mirrored(self):
        self.assert_stands((300, 5, 300), self.RUN + (put(300),), writer("wide"))
        self.assert_stands((300, 44, 300), self.RUN + (put(300),), writer("both"))
        self.assert_stands((300, None, 300), self.RUN + (put(300),), writer("both", "empty"))
        self.assert_stands((300, 5, 300), self.RUN + (put(300),), writer("wide first"))

    def test_late_numbers(self):
        # What comes to the narrow side is mirrored, what comes to the wide one is not.
        self.assert_stands((300, 44, 44), self.RUN + (put(300), come(300)), writer("wide first", "cut"))
        self.assert_stands((300, None, None), self.RUN + (put(300), come(300)), writer("wide first", "empty"))
        self.assert_stands((300, 44, 300), self.RUN + (put(300), come(300)), writer("narrow first", "cut"))

    def test_from_its_begin_to_its_end_alone(self):
        world = writer("narrow")
        self.assert_stands((5, 5, None), there(5) + begin(ADD, UP), world)
        self.assert_stands((9, 9, None), there(5) + begin(ADD, RELEASE) + (put(9),), world)
        run = self.RUN + (put(9), ("begin", NO_UP), put(8))
        self.assert_stands((8, 8, 9), run, world)

    def test_of_its_column_alone(self):
        elder = ("wide", (), (("id", "narrow", "cut", "", 1), ("ref", "narrow", "cut", "", 1)))
        world = world_of(elder, columns=("id", "ref"))
        run = begin(ADD, ("add", "ref"), UP)
        self.assert_stands((9, 9, 9), run + (put(9, 0),), world)
        self.assert_stands((9, 9, None), run + (("set", "shop", 0, "ref", 0, 9),), world, ("ref", 0))


class DownTest(WritingCase):
    def run_of(self, rule):
        return there(5) + begin(ADD, ("down", "id", rule), RELEASE)

    def test_what_is_written_wide_is_written_narrow_too(self):
        for how in ("wide", "wide first"):
            for rule, stands in (("cut", 44), ("empty", None)):
                # The rule of the row itself does not count.
                for own in RULES:
                    world = writer(how, own)
                    self.assert_stands((9, 9, 9), self.run_of(rule) + (put(9),), world)
                    self.assert_stands((300, stands, 300), self.run_of(rule) + (put(300),), world)
            self.assert_stands((9, 9, 9), self.run_of("refuse") + (put(9),), writer(how))
            self.assert_refused(self.run_of("refuse") + (put(300),), writer(how))

    def test_other_ways_are_not_mirrored(self):
        for rule in RULES:
            self.assert_stands((300, 44, None), self.run_of(rule) + (put(300),), writer("narrow", "cut"))
            self.assert_stands((300, 44, 300), self.run_of(rule) + (put(300),), writer("both", "cut"))
            self.assert_stands((300, None, None), self.run_of(rule) + (put(300),), writer("narrow first", "empty"))

    def test_late_numbers(self):
        # What comes to the wide side is mirrored, by the rule of the mirror.
        run = (put(300), come(300))
        self.assert_stands((300, None, 300), self.run_of("empty") + run, writer("narrow first", "cut"))
        self.assert_stands((300, 44, 300), self.run_of("cut") + run, writer("narrow first", "empty"))
        self.assert_refused(self.run_of("refuse") + run, writer("narrow first", "cut"))
        # What comes to the narrow one is not, and goes by the rule of its row.
        self.assert_stands((300, None, 300), self.run_of("cut") + run, writer("wide first", "empty"))
        self.assert_stands((300, 44, 300), self.run_of("empty") + run, writer("wide first", "cut"))

    def test_from_its_begin_to_its_end_alone(self):
        world = writer("wide")
        self.assert_stands((9, 5, 9), there(5) + begin(ADD, RELEASE) + (put(9),), world)
        run = self.run_of("cut") + (put(9), ("begin", NO_DOWN), put(8))
        self.assert_stands((8, 9, 8), run, world)
        run = run + (("begin", ("down", "id", "empty")), put(300))
        self.assert_stands((300, None, 300), run, world)


    def test_of_its_column_alone(self):
        writes = (("id", "wide", "cut", "", 1), ("ref", "wide", "cut", "", 1))
        world = world_of(("wide", (), ()), ("wide", (), writes), columns=("id", "ref"))
        run = begin(ADD, ("add", "ref"), ("down", "ref", "empty"), ("down", "id", "cut"), RELEASE)
        run = run + (put(300), ("set", "shop", 1, "ref", 0, 300))
        self.assert_stands((300, 44, 300), run, world)
        self.assert_stands((300, None, 300), run, world, ("ref", 0))
        run = begin(ADD, ("add", "ref"), ("down", "ref", "cut"), RELEASE) + (put(300),)
        self.assert_stands((300, None, 300), run, world)


class BothMirrorsTest(WritingCase):
    def test_a_mirror_does_not_write_through_the_other_one(self):
        run = there(5) + begin(ADD, UP, ("down", "id", "empty"), RELEASE)
        # Were the mirror up to write back what the mirror down wrote, nothing would stand there.
        self.assert_stands((300, None, 300), run + (put(300),), writer("wide"))
        # Nor does the mirror down write 44, or by its rule nothing, into the narrow side again.
        self.assert_stands((300, 44, 44), run + (put(300),), writer("narrow", "cut"))
        self.assert_stands((300, None, None), run + (put(300),), writer("narrow", "empty"))


class FillTest(WritingCase):
    """The edition that wrote wide alone left unlike sides: 5 or nothing, and 300 or 9."""

    def amid(self, run, step):
        return run + (("begin", step), ("visit", 0))

    def test_empty_wide_sides(self):
        world = writer("wide")
        run = there(5) + begin(ADD, RELEASE)
        for step in (FILL, ANEW):
            self.assert_stands((5, 5, 5), self.amid(run, step), world)

    def test_wide_sides_that_are_not_empty(self):
        world = writer("wide")
        run = there(5) + begin(ADD, RELEASE) + (put(300),)
        self.assert_stands((300, 5, 300), self.amid(run, FILL), world)
        self.assert_stands((300, 5, 5), self.amid(run, ANEW), world)

    def test_empty_narrow_sides(self):
        world = writer("wide")
        run = begin(ADD, RELEASE) + (put(9),)
        for step in (FILL, ANEW):
            self.assert_stands((9, None, 9), self.amid(run, step), world)
            # The visit counts all the same.
            self.assert_stands((9, None, 9), self.amid(run, step) + (("end", step),), world)

    def test_both_sides_empty(self):
        world = world_of(("wide", (), (("id", "narrow", "empty", "", 1),)))
        run = begin(ADD) + (put(300, 0),)
        for step in (FILL, ANEW, ("fill back", "id", "anew", "refuse")):
            self.assert_stands((300, None, None), self.amid(run, step), world)
            self.assert_stands((300, None, None), self.amid(run, step) + (("end", step),), world)

    def test_fills_back(self):
        world = writer("wide")
        run = there(5) + begin(ADD, RELEASE) + (put(9),)
        for rule in RULES:
            self.assert_stands((9, 5, 9), self.amid(run, ("fill back", "id", "empty", rule)), world)
            self.assert_stands((9, 9, 9), self.amid(run, ("fill back", "id", "anew", rule)), world)
            new = begin(ADD, RELEASE) + (put(9),)
            self.assert_stands((9, 9, 9), self.amid(new, ("fill back", "id", "empty", rule)), world)
            plain = there(5) + begin(ADD)
            self.assert_stands((5, 5, None), self.amid(plain, ("fill back", "id", "anew", rule)), world)

    def test_great_numbers_filled_back(self):
        world = writer("wide")
        run = there(5) + begin(ADD, RELEASE) + (put(300),)
        for rule, stands in (("cut", 44), ("empty", None)):
            self.assert_stands((300, stands, 300), self.amid(run, ("fill back", "id", "anew", rule)), world)
        self.assert_refused(self.amid(run, ("fill back", "id", "anew", "refuse")), world)
        # Where the narrow side is not empty, nothing is written, nor refused.
        self.assert_stands((300, 5, 300), self.amid(run, ("fill back", "id", "empty", "refuse")), world)

    def test_fills_and_mirrors(self):
        world = writer("wide")
        run = there(5) + begin(ADD, RELEASE) + (put(300),)
        mirrored = run + begin(UP)
        # A fill back writes the narrow side alone, so the wide one gets what then stands there.
        self.assert_stands((300, 44, 44), self.amid(mirrored, ("fill back", "id", "anew", "cut")), world)
        self.assert_stands((300, None, None), self.amid(mirrored, ("fill back", "id", "anew", "empty")), world)
        # A fill writes the wide side alone; with the mirror down the narrow side gets it again.
        down = run + begin(("down", "id", "refuse"))
        self.assert_stands((300, 5, 5), self.amid(down, ANEW), world)
        # The mirror up has no part in a fill, nor the mirror down in a fill back.
        self.assert_stands((300, 5, 5), self.amid(mirrored, ANEW), world)
        self.assert_stands((300, 44, 300), self.amid(down, ("fill back", "id", "anew", "cut")), world)

    def test_visits_again(self):
        world = writer("wide")
        run = self.amid(there(5) + begin(ADD, RELEASE), ANEW) + (put(9),)
        self.assert_stands((9, 5, 9), run, world)
        self.assert_stands((9, 5, 5), run + (("visit", 0),), world)


class DropTest(WritingCase):
    def test_what_stands_in_the_side_is_gone(self):
        elder = ("wide", (("id", "either", ()),), ())
        world = world_of(elder, ("wide", (("id", "either", ()),), (("id", "both", "cut", "", 1),)), elder)
        run = there(5) + begin(ADD, RELEASE) + (put(300),) + begin(RELEASE)
        self.assert_stands((300, 44, 300), run, world)
        self.assert_stands((300, None, 300), run + begin(DROP_NARROW), world)
        self.assert_stands((300, 44, None), run + begin(DROP_WIDE), world)
        # A side that comes anew is empty.
        self.assert_stands((300, 44, None), run + begin(DROP_WIDE, ADD), world)
        self.assert_stands((300, 44, 44), run + begin(DROP_WIDE, ADD) + (("begin", FILL), ("visit", 0)), world)

    def test_of_its_column_alone(self):
        world = world_of(("wide", (), ()), columns=("id", "ref"))
        cells = there(5) + (("there", "ref", 0, 6),)
        fills = tuple([("fill", column, "anew") for column in ("id", "ref")])
        run = cells + begin(ADD, ("add", "ref"))
        for fill in fills:
            run = run + (("begin", fill), ("visit", 0), ("end", fill))
        run = run + begin(DROP_WIDE)
        self.assertEqual(stock_of(world, SPAN, run), {CELL: (5, 5, None), ("ref", 0): (6, 6, 6)})

    def test_an_edition_that_does_without_the_side(self):
        elder = ("wide", (), (("id", "narrow", "cut", "", 1),))
        newer = ("wide", (), (("id", "wide", "cut", "", 1),))
        world = world_of(elder, newer)
        run = there(5) + begin(ADD, RELEASE, DROP_NARROW) + (put(300),)
        self.assert_stands((300, None, 300), run, world)

    def test_withdrawn_editions(self):
        world = writer("both")
        run = there(5) + begin(ADD, RELEASE) + (put(300),) + begin(WITHDRAW, DROP_WIDE) + (put(7, 0),)
        self.assert_stands((7, 7, None), run, world)


class SignedTest(WritingCase):
    def test_cuts_below_zero(self):
        edition = ("wide", (), (("id", "narrow", "cut", "", 1),))
        world = world_of(edition, narrow=Kind(-8, 7), wide=Kind(-50, 400))
        run = (("set", "shop", 0, "id", 0, 8), ("set", "shop", 0, "id", 1, 30), ("set", "shop", 0, "id", 2, -8))
        found = stock_of(world, (-8, 400), run)
        self.assertEqual(found, {CELL: (8, -8, None), ("id", 1): (30, -2, None), ("id", 2): (-8, -8, None)})


    def test_late_ones_below_zero(self):
        writes = (("id", "narrow first", "cut", "", 1),)
        world = world_of(("wide", (), ()), ("wide", (), writes), narrow=Kind(-8, 7), wide=Kind(-50, 400))
        run = begin(ADD, RELEASE) + (put(-5), come(-5))
        self.assertEqual(stock_of(world, (-8, 400), run), {CELL: (-5, -5, -5)})


if __name__ == "__main__":
    unittest.main()
