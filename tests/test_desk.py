"""A desk: lines that are said to a yard, and their answers."""

import random
import unittest

from widerkeys.desk import Desk
from widerkeys.errors import BadEvent, BadLine, BadSpan, BadText, BadWorld, NoCell, NothingToUndo, NotNow
from widerkeys.lines import row_of_event
from widerkeys.texts import show_world
from widerkeys.yard import Yard

from players import ADD, BYTE, DEEDS, SHOP, world_of
from samples import NO_TEXTS, nested
from test_texts import NO_EVENT_ROWS, NO_STEP_ROWS
from test_yard import FREE, LATER, led, told_of, yard_of

HEAD = show_world(SHOP)


def desk_of(world, *lines, span="1 200"):
    desk = Desk(show_world(world) + f"\nspan {span}")
    for line in lines:
        desk.say(line)
    return desk


class DeskCase(unittest.TestCase):
    def assert_says(self, desk, *pairs):
        for line, answer in pairs:
            self.assertEqual(desk.say(line), answer, line)


class CreatedTest(DeskCase):
    def test_its_yard(self):
        text = HEAD + "\nspan 1 200\nthere id 0 5\nbegin add id"
        desk = Desk(text=text)
        self.assertEqual(desk.yard, yard_of(SHOP, [("there", "id", 0, 5), ("begin", ADD)], (1, 200)))
        self.assertEqual(desk.say(line="cell id 0"), "5 5 -")

    def test_errors(self):
        for value in NO_TEXTS:
            with self.assertRaises(BadText) as caught:
                Desk(value)
            self.assertIs(caught.exception.value, None)
        for error, text in (
            (BadText, ""),
            (BadText, HEAD),
            (BadText, HEAD + "\nspan 1 200\nx"),
            (BadText, HEAD + "\nspan 1 200\nvisit 0"),
            (BadWorld, "narrow 0..255\nwide 0..65535\nspan 1 200"),
            (BadSpan, HEAD + "\nspan 1 5"),
        ):
            with self.assertRaises(error):
                Desk(text)


class ExampleTest(DeskCase):
    def test_the_document_has_it(self):
        desk = desk_of(SHOP)
        self.assert_says(
            desk,
            ("there id 0 5", "ok"),
            ("begin add id", "ok"),
            ("cell id 0", "5 5 -"),
            ("begin release shop", "ok"),
            ("set shop 1 id 0 9", "ok"),
            ("cell id 0", "9 9 9"),
            ("set shop 0 id 0 7", "ok"),
            ("mark id 0", "small same old"),
        )
        self.assertEqual(desk.yard["id", 0], (7, 7, 9))
        self.assert_says(desk, ("end release shop", "ok"), ("read shop 1 id 0", "7"), ("wrongs", "-"))


class AnswerTest(DeskCase):
    def test_reads(self):
        world = world_of(("wide", (), ()), ("wide", (("id", "wide", DEEDS),), ()))
        desk = desk_of(world, "there id 0 5", "there id 1 6", "there id 2 5", "begin add id", "begin release shop")
        self.assert_says(
            desk,
            ("read shop 1 id 0", "empty none"),
            ("match shop 1 id 0 id 2", "no none"),
            ("order shop 1 id 0 1", "no none"),
            ("end release shop", "ok"),
            ("begin fill id anew", "ok"),
            ("visit 0", "ok"),
            ("visit 1", "ok"),
            ("visit 2", "ok"),
            ("read shop 1 id 0", "5"),
            ("match shop 1 id 0 id 2", "yes"),
            ("match shop 1 id 0 id 1", "no"),
            ("order shop 1 id 0 1", "yes"),
            ("order shop 1 id 1 0", "no"),
            ("wrongs", "5 none, 6 none, 7 none"),
        )

    def test_words_behind_wrong_events(self):
        writer = ("wide", (("id", "narrow", ("match", "order", "show")),), (("id", "narrow", "cut", "", 1),))
        newer = ("wide", (("id", "wide", ()),), (("id", "narrow", "refuse", "", 1),))
        desk = desk_of(world_of(writer, newer), "there id 0 44", "there id 1 50", span="1 400")
        self.assert_says(
            desk,
            ("set shop 0 id 2 300", "ok"),
            ("read shop 0 id 2", "44 show"),
            ("match shop 0 id 0 id 2", "yes match"),
            ("order shop 0 id 1 2", "no order"),
            ("order shop 0 id 2 1", "yes order"),
            ("begin release shop", "ok missing"),
            ("set shop 1 id 3 300", "ok refused"),
            ("end release shop", "ok missing"),
            ("begin add id", "ok"),
            ("read shop 1 id 0", "empty none"),
            ("begin fill id anew", "ok"),
            ("visit 0", "ok"),
            ("read shop 1 id 0", "44"),
            ("set shop 1 id 0 50", "ok"),
            ("read shop 1 id 0", "44 old"),
        )
        words = "3 show, 4 match, 5 order, 6 order, 7 missing, 8 refused, 9 missing, 11 none, 16 old"
        self.assert_says(desk, ("wrongs", words))

    def test_a_wrong_event_ahead(self):
        desk = desk_of(world_of(FREE), "set shop 0 id 0 300", span="1 400")
        self.assert_says(desk, ("read shop 0 id 0", "44 show"), ("set shop 0 id 0 5", "ok"), ("read shop 0 id 0", "5"))
        self.assert_says(desk, ("back", "ok"), ("back", "ok"), ("wrongs", "1 show"), ("read shop 0 id 0", "44 show"))

    def test_back(self):
        desk = desk_of(SHOP, "there id 0 5")
        self.assert_says(desk, ("back", "ok"))
        self.assertEqual(desk.yard, Yard(SHOP, (1, 200)))
        with self.assertRaises(NothingToUndo):
            desk.say("back")

    def test_cells(self):
        desk = desk_of(SHOP, "there id 0 5", "there id 999999999 7")
        self.assert_says(desk, ("cell id 0", "5 5 -"), ("cell id 999999999", "7 7 -"))
        self.assert_says(desk, ("begin add id", "ok"), ("begin fill id anew", "ok"), ("visit 0", "ok"), ("cell id 0", "5 5 5"))
        self.assert_says(desk, ("mark id 0", "small same same"), ("mark id 999999999", "small same none"))
        self.assert_says(desk, ("visit 999999999", "ok"), ("end fill id anew", "ok"), ("begin drop id narrow", "ok missing"))
        self.assert_says(desk, ("cell id 0", "5 - 5"), ("mark id 0", "small none same"))
        for line in ("cell id 1", "mark id 1"):
            with self.assertRaises(NoCell) as caught:
                desk.say(line)
            self.assertEqual(caught.exception.value, ("id", 1))
        for line in ("cell ref 0", "mark ref 0"):
            with self.assertRaises(NoCell) as caught:
                desk.say(line)
            self.assertEqual(caught.exception.value, ("ref", 0))

    def test_great_cells(self):
        desk = desk_of(world_of(FREE), "set shop 0 id 0 300", "begin add id", "begin fill id anew", "visit 0", span="1 400")
        self.assert_says(desk, ("cell id 0", "300 44 44"), ("mark id 0", "great cut cut"))

    def test_running(self):
        desk = desk_of(SHOP)
        self.assert_says(desk, ("running", "shop 0"), ("begin add id", "ok"), ("begin release shop", "ok"))
        self.assert_says(desk, ("running", "shop 0, shop 1"), ("end release shop", "ok"), ("running", "shop 1"))

    def test_spans(self):
        desk = desk_of(SHOP)
        self.assert_says(desk, ("span", "1 200"), ("begin grow 255", "ok"), ("span", "1 255"))
        self.assert_says(desk, ("begin purge 100", "ok"), ("span", "100 255"))
        self.assert_says(desk_of(LATER), ("wrongs", "-"), ("running", "shop 0"))

    def test_names_that_are_words(self):
        world = world_of(("wide", (), ()), columns=("back", "cell", "up"))
        desk = desk_of(world, "there cell 0 5", "there back 0 6")
        self.assert_says(desk, ("cell cell 0", "5 5 -"), ("mark back 0", "small same none"), ("begin add back", "ok"))
        self.assert_says(desk, ("begin fill back anew", "ok"), ("visit 0", "ok"), ("end fill back anew", "ok"))
        self.assert_says(desk, ("cell back 0", "6 6 6"), ("begin up back", "ok"), ("begin no up back", "ok"))
        self.assert_says(desk, ("begin fill back back anew cut", "ok"), ("back", "ok"), ("back", "ok"))


class BadLineTest(DeskCase):
    def assert_bad(self, desk, *lines):
        before = told_of(desk.yard)
        for line in lines:
            with self.assertRaises(BadLine) as caught:
                desk.say(line)
            self.assertIs(caught.exception.value, line)
        self.assertEqual(told_of(desk.yard), before)

    def test_lines(self):
        desk = desk_of(SHOP, "there id 0 5")
        self.assert_bad(desk, *NO_EVENT_ROWS)
        self.assert_bad(desk, *["begin " + row for row in NO_STEP_ROWS])
        self.assert_bad(
            desk,
            "back ",
            " back",
            "Back",
            "back back",
            "back\n",
            "undo",
            "cell",
            "cell id",
            "cell id 0 0",
            "cell id 00",
            "cell id -1",
            "cell id -0",
            "cell id 1000000000",
            "cell id x",
            "cell 0 id",
            "cell Id 0",
            "cell abcdefghi 0",
            "cell  id 0",
            "cell id 0 ",
            "mark",
            "mark id",
            "mark id 1000000000",
            "mark id 0 0",
            "mark Id 0",
            "running shop",
            "running ",
            "span 1 200",
            "span ",
            "wrongs 0",
            "Wrongs",
            "add id",
            "fill id anew",
            "begin add id\nbegin add id",
            "there id 0 5\n",
        )

    def test_other_values(self):
        self.assert_bad(desk_of(SHOP, "there id 0 5"), *NO_TEXTS, nested(20), BYTE, SHOP, ["back"], ("back",), {"back": 1})

    def test_what_the_yard_raises(self):
        desk = desk_of(SHOP, "there id 0 5")
        before = told_of(desk.yard)
        for line, error, event in (
            ("begin add ref", BadEvent, ("begin", ("add", "ref"))),
            ("set shop 3 id 0 5", BadEvent, ("set", "shop", 3, "id", 0, 5)),
            ("read bank 0 id 0", BadEvent, ("read", "bank", 0, "id", 0)),
            ("visit 0", NotNow, ("visit", 0)),
            ("end add id", NotNow, ("end", ADD)),
            ("there id 0 5", NotNow, ("there", "id", 0, 5)),
            ("begin grow 999999999999999999", NotNow, ("begin", ("grow", 10 ** 18 - 1))),
        ):
            with self.assertRaises(error) as caught:
                desk.say(line)
            told = caught.exception.value if error is BadEvent else caught.exception.event
            self.assertEqual(told, event)
        self.assertEqual(told_of(desk.yard), before)


class DrawnTest(DeskCase):
    def test_drawn_events(self):
        for seed in range(40):
            yard = led(random.Random(seed), 40)
            first, last = yard.span
            desk = Desk(show_world(yard.world) + f"\nspan {first} {last}")
            again = Yard(yard.world, yard.span)
            words = dict(yard.wrongs)
            for index, event in enumerate(yard.events):
                answer = again.do(event)
                told = "ok"
                if event[0] == "read":
                    told = "empty" if answer is None else str(answer)
                if event[0] in ("match", "order"):
                    told = "yes" if answer else "no"
                if index in words:
                    told += " " + words[index]
                self.assertEqual(desk.say(row_of_event(event)), told)
            self.assertEqual(desk.yard, yard)
            self.assertEqual(desk.say("wrongs"), ", ".join(f"{index} {word}" for index, word in yard.wrongs) or "-")


if __name__ == "__main__":
    unittest.main()
