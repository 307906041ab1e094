"""Journals: the texts of yards."""

import random
import unittest

from widerkeys.errors import BadSpan, BadText, BadWorld
from widerkeys.journals import read_journal
from widerkeys.kinds import Kind
from widerkeys.texts import show_world
from widerkeys.yard import Yard

from players import ADD, BYTE, FILL, RELEASE, SHOP, SHORT, begin, world_of
from samples import NO_TEXTS, nested
from test_texts import NO_EVENT_ROWS
from test_yard import led, told_of, yard_of

HEAD = show_world(SHOP).split("\n")
EVENTS = [("there", "id", 0, 5), *begin(ADD, RELEASE), ("set", "shop", 1, "id", 0, 9), ("begin", FILL), ("visit", 0)]
ROWS = [
    "there id 0 5",
    "begin add id",
    "begin release shop",
    "end release shop",
    "set shop 1 id 0 9",
    "begin fill id empty",
    "visit 0",
]


class JournalCase(unittest.TestCase):
    def assert_bad(self, index, rows):
        with self.assertRaises(BadText) as caught:
            read_journal("\n".join(rows))
        self.assertEqual(caught.exception.value, index, rows)


class WrittenTest(JournalCase):
    def test_without_events(self):
        self.assertEqual(Yard(SHOP, (1, 200)).journal, "\n".join(HEAD + ["span 1 200"]))
        self.assertEqual(read_journal("\n".join(HEAD + ["span 1 200"])), Yard(SHOP, (1, 200)))

    def test_with_events(self):
        yard = yard_of(SHOP, EVENTS)
        self.assertEqual(yard.journal, "\n".join(HEAD + ["span 1 400"] + ROWS))
        again = read_journal(yard.journal)
        self.assertEqual(again, yard)
        self.assertEqual(told_of(again), told_of(yard))
        again.do(("end", FILL))
        self.assertEqual(yard.many, 7)

    def test_wrong_and_refused_events_are_in_it(self):
        writer = ("wide", (("id", "narrow", ("show",)),), (("id", "narrow", "refuse", "", 1),))
        yard = yard_of(world_of(writer), [("set", "shop", 0, "id", 0, 300), ("set", "shop", 0, "id", 0, 5)])
        again = read_journal(yard.journal)
        self.assertEqual(again.wrongs, ((0, "refused"),))
        self.assertEqual(again, yard)

    def test_what_is_taken_back_is_not(self):
        yard = yard_of(SHOP, EVENTS)
        yard.back()
        self.assertEqual(yard.journal, "\n".join(HEAD + ["span 1 400"] + ROWS[:-1]))

    def test_below_nought(self):
        world = world_of(("wide", (), (("id", "narrow", "cut", "", 1),)), narrow=Kind(-20, 7), wide=Kind(-50, 100))
        yard = yard_of(world, [("there", "id", 0, -3)], (-18, 5))
        self.assertTrue(yard.journal.endswith("\nspan -18 5\nthere id 0 -3"))
        self.assertEqual(read_journal(yard.journal), yard)

    def test_drawn_events(self):
        for seed in range(40):
            yard = led(random.Random(seed), 40)
            again = read_journal(text=yard.journal)
            self.assertEqual(again, yard)
            self.assertEqual(told_of(again), told_of(yard))


class BadTest(JournalCase):
    def test_values_that_are_no_texts(self):
        for value in NO_TEXTS + (nested(20), BYTE, SHOP):
            with self.assertRaises(BadText) as caught:
                read_journal(value)
            self.assertIs(caught.exception.value, None)

    def test_cut_behind_each_row(self):
        rows = HEAD + ["span 1 400"] + ROWS
        many = len(HEAD)
        for cut in range(len(rows) + 1):
            if cut == 0:
                self.assert_bad(0, [""])
            elif cut < 2:
                self.assert_bad(cut, rows[:cut])
            elif cut <= many:
                # The row of the span is wanted, whether a world is made of the others or not.
                self.assert_bad(cut, rows[:cut])
            else:
                self.assertEqual(read_journal("\n".join(rows[:cut])).many, cut - many - 1)

    def test_rows_of_the_span(self):
        for row in (
            "span",
            "span 1",
            "span 1 200 300",
            "span  1 200",
            "span 1 200 ",
            " span 1 200",
            "span 01 200",
            "span 1 -0",
            "span one 200",
            "span 1 1000000000000000000",
            "Span 1 200",
            "spans 1 200",
            "there id 0 5",
            "begin add id",
            "narrow 0..255",
            "",
        ):
            for rest in ([], ROWS, ["x"]):
                self.assert_bad(len(HEAD), HEAD + [row] + rest)

    def test_rows_of_the_world(self):
        rows = HEAD + ["span 1 400"] + ROWS
        for at in range(len(HEAD)):
            for other in ("", "x", rows[at] + " ", "there id 0 5"):
                self.assert_bad(at, rows[:at] + [other] + rows[at + 1 :])
        self.assert_bad(1, HEAD[:1] + ["span 1 400"])
        self.assert_bad(0, ["span 1 400"])
        self.assert_bad(len(HEAD) + 1, rows[: len(HEAD) + 1] + ["column ref"])
        self.assert_bad(len(HEAD) + 1, rows[: len(HEAD) + 1] + ["span 1 400"])

    def test_rows_of_events(self):
        rows = HEAD + ["span 1 400"] + ROWS
        for at in range(len(HEAD) + 1, len(rows) + 1):
            for other in NO_EVENT_ROWS + ("back", "wrongs", "cell id 0"):
                self.assert_bad(at, rows[:at] + [other] + rows[at:])

    def test_what_is_no_world(self):
        for rows, value in (
            (["narrow 0..255", "wide 0..65535", "span 1 400"], (BYTE, SHORT, (), ())),
            (["narrow 0..255", "wide 0..255", "span 9 1"], (BYTE, BYTE, (), ())),
            (["narrow 0..255", "wide 0..65535", "column id", "span 1 400"] + ROWS, (BYTE, SHORT, ("id",), ())),
        ):
            with self.assertRaises(BadWorld) as caught:
                read_journal("\n".join(rows))
            self.assertEqual(caught.exception.value, value)
            # The forms of all rows are ahead of it.
            self.assert_bad(len(rows), rows + ["x"])

    def test_what_is_no_fit_span(self):
        for first, last in ((1, 15), (-1, 200), (1, 65536), (5, 4), (1, 260), (0, 10 ** 18 - 1)):
            rows = HEAD + [f"span {first} {last}"]
            for rest in ([], ROWS, ["begin no up id"]):
                with self.assertRaises(BadSpan) as caught:
                    read_journal("\n".join(rows + rest))
                self.assertEqual(caught.exception.value, (first, last))
            self.assert_bad(len(rows), rows + ["x"])

    def test_events_that_the_yard_does_not_do(self):
        rows = HEAD + ["span 1 400"] + ROWS
        for row in (
            "there id 1 5",
            "begin add id",
            "begin add ref",
            "begin release bank",
            "set shop 3 id 0 5",
            "set shop 999999999 id 0 5",
            "set shop 0 id 0 999999999999999999",
            "read shop 2 id 0",
            "end fill id anew",
            "begin grow 401",
        ):
            self.assert_bad(len(rows), rows + [row])
            # It is the first one that counts.
            self.assert_bad(len(rows), rows + [row, "visit 9", row])
        self.assert_bad(len(HEAD) + 1, HEAD + ["span 1 400", "there id 0 0"] + ROWS)

    def test_one_sign_changed(self):
        draw = random.Random(8)
        text = "\n".join(HEAD + ["span 1 400"] + ROWS)
        told = 0
        for _ in range(300):
            at = draw.randrange(1, len(text) + 1)
            sign = draw.choice(" \n-.0159abdegilnoprstuw")
            for changed in (text[:at] + sign + text[at:], text[: at - 1] + text[at:], text[: at - 1] + sign + text[at:]):
                try:
                    yard = read_journal(changed)
                except BadText as error:
                    # What is ahead of the row that is told is a journal, or the beginning of one.
                    rows = changed.split("\n")
                    self.assertTrue(0 <= error.value <= len(rows))
                    if error.value > len(HEAD):
                        self.assertEqual(read_journal("\n".join(rows[: error.value])).many, error.value - len(HEAD) - 1)
                    continue
                except (BadWorld, BadSpan):
                    continue
                told += 1
                self.assertEqual(yard.journal, changed)
        self.assertGreater(told, 15)

    def test_forms_ahead_of_what_happens(self):
        rows = HEAD + ["span 1 400", "visit 0", "x"]
        self.assert_bad(len(rows) - 1, rows)


if __name__ == "__main__":
    unittest.main()
