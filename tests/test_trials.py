"""Trials: blocks behind which a yard is as it was."""

import random
import unittest
from itertools import product

from drawn import lead_on
from widerkeys.errors import NothingToUndo, NotNow

from players import ADD, FILL, RELEASE, SHOP, begin
from test_yard import LATER, led, told_of, yard_of

START = [("there", "id", 0, 5), ("begin", ADD)]
# What is told of keep: nothing, then each value; it is kept by True itself alone.
TOLD = ({}, {"keep": False}, {"keep": True}, {"keep": 1}, {"keep": None})


def setting(number):
    return ("set", "shop", 0, "id", 0, number)


def is_kept(told):
    return told.get("keep") is True


class TrialCase(unittest.TestCase):
    def setUp(self):
        self.yard = yard_of(SHOP, START)
        self.before = told_of(self.yard)


class TrialTest(TrialCase):
    def test_it_gives_the_yard(self):
        with self.yard.trial() as held:
            self.assertIs(held, self.yard)
            held.do(setting(9))
            self.assertEqual((held["id", 0], held.many), ((9, 9, None), 3))
        self.assertEqual(told_of(self.yard), self.before)
        self.assertEqual(self.yard, yard_of(SHOP, START))

    def test_kept(self):
        with self.yard.trial(keep=True):
            self.yard.do(setting(9))
        self.assertEqual((self.yard["id", 0], self.yard.many), ((9, 9, None), 3))

    def test_kept_by_true_itself_alone(self):
        for keep in (False, None, 1, 0, "True", "", (True,), [True], {"keep": True}, 2):
            with self.yard.trial(keep=keep):
                self.yard.do(setting(9))
            self.assertEqual(told_of(self.yard), self.before)
            self.yard.tried(lambda yard: yard.do(setting(9)), keep=keep)
            self.assertEqual(told_of(self.yard), self.before)

    def test_keep_is_told_by_its_name(self):
        for call in (lambda: self.yard.trial(True), lambda: self.yard.tried(len, True)):
            with self.assertRaises(TypeError):
                call()

    def test_what_is_told_of_keep(self):
        for told in TOLD:
            yard = yard_of(SHOP, START)
            with yard.trial(**told):
                yard.do(setting(9))
                self.assertEqual((yard["id", 0], yard.many), ((9, 9, None), 3))
            behind = yard_of(SHOP, START + [setting(9)] * is_kept(told))
            self.assertEqual(told_of(yard), told_of(behind), told)

    def test_errors(self):
        for told in TOLD:
            for error in (NotNow(()), KeyError("x"), ZeroDivisionError(), KeyboardInterrupt()):
                with self.assertRaises(type(error)) as caught:
                    with self.yard.trial(**told):
                        self.yard.do(setting(9))
                        raise error
                self.assertIs(caught.exception, error)
                self.assertEqual(told_of(self.yard), self.before, told)

    def test_an_error_ahead_of_all_events(self):
        for told in TOLD:
            with self.assertRaises(KeyError):
                with self.yard.trial(**told):
                    raise KeyError
            self.assertEqual(told_of(self.yard), self.before, told)

    def test_one_trial_behind_another_one(self):
        for one, other in product(TOLD, repeat=2):
            yard = yard_of(SHOP, START)
            with self.assertRaises(KeyError):
                with yard.trial(**one):
                    yard.do(setting(9))
                    raise KeyError
            with yard.trial(**other):
                yard.do(setting(10))
            behind = yard_of(SHOP, START + [setting(10)] * is_kept(other))
            self.assertEqual(told_of(yard), told_of(behind), (one, other))

    def test_errors_that_do_not_leave_it(self):
        with self.yard.trial(keep=True):
            self.yard.do(setting(9))
            with self.assertRaises(NotNow):
                self.yard.do(("begin", ADD))
        self.assertEqual(self.yard.many, 3)

    def test_it_is_left_by_a_return(self):
        def leave(keep):
            with self.yard.trial(keep=keep):
                self.yard.do(setting(9))
                return self.yard.many

        self.assertEqual(leave(False), 3)
        self.assertEqual(told_of(self.yard), self.before)
        self.assertEqual(leave(True), 3)
        self.assertEqual(self.yard.many, 3)

    def test_events_taken_back_within_it(self):
        with self.yard.trial():
            self.yard.back()
            self.yard.back()
            self.assertEqual(self.yard.many, 0)
            with self.assertRaises(NothingToUndo):
                self.yard.back()
            self.yard["id", 7] = 7
        self.assertEqual(told_of(self.yard), self.before)
        with self.yard.trial(keep=True):
            self.yard.back()
        self.assertEqual(self.yard.events, (START[0],))

    def test_it_begins_with_its_block(self):
        trial = self.yard.trial()
        self.yard.do(setting(9))
        with trial:
            self.yard.do(setting(10))
        self.assertEqual(self.yard["id", 0], (9, 9, None))

    def test_amid_long_steps(self):
        yard = yard_of(LATER, [("there", "id", 0, 5), *begin(ADD, RELEASE), ("set", "shop", 1, "id", 0, 9), ("begin", FILL)])
        before = told_of(yard)
        with yard.trial():
            for event in (("visit", 0), ("come", "shop", 1, "id", 0, 9), ("end", FILL), ("begin", ("purge", 50))):
                yard.do(event)
            self.assertEqual(yard.cells, ())
        self.assertEqual(told_of(yard), before)


class WithinTest(TrialCase):
    def step(self, number):
        self.yard.do(setting(number))

    def test_within_one_another(self):
        for outer, inner in product(TOLD, repeat=2):
            yard = yard_of(SHOP, START)
            with yard.trial(**outer):
                yard.do(setting(10))
                with yard.trial(**inner):
                    yard.do(setting(20))
                self.assertEqual(yard["id", 0][0], 20 if is_kept(inner) else 10)
                yard.do(setting(30))
            done = [setting(10), *[setting(20)] * is_kept(inner), setting(30)] * is_kept(outer)
            self.assertEqual(told_of(yard), told_of(yard_of(SHOP, START + done)), (outer, inner))

    def test_errors_leave_each_of_both(self):
        for outer, inner in product(TOLD, repeat=2):
            for leaves in ("inner", "outer", "both"):
                yard = yard_of(SHOP, START)
                self.raise_within(yard, outer, inner, leaves)
                done = [setting(10), setting(30)] * (leaves == "inner" and is_kept(outer))
                self.assertEqual(told_of(yard), told_of(yard_of(SHOP, START + done)), (outer, inner, leaves))

    def raise_within(self, yard, outer, inner, leaves):
        """Plays two trials, one within the other, of which an error leaves the inner one, the outer one or both."""
        error = KeyError()
        try:
            with yard.trial(**outer):
                yard.do(setting(10))
                try:
                    with yard.trial(**inner):
                        yard.do(setting(20))
                        if leaves != "outer":
                            raise error
                except KeyError:
                    self.assertEqual(yard["id", 0][0], 10)
                    if leaves == "both":
                        raise
                yard.do(setting(30))
                if leaves == "outer":
                    raise error
        except KeyError as caught:
            self.assertIs(caught, error)
            self.assertNotEqual(leaves, "inner")
        else:
            self.assertEqual(leaves, "inner")

    def test_an_error_leaves_the_inner_one_alone(self):
        with self.yard.trial(keep=True):
            self.step(10)
            with self.assertRaises(KeyError):
                with self.yard.trial(keep=True):
                    self.step(20)
                    raise KeyError
            self.assertEqual(self.yard["id", 0][0], 10)
        self.assertEqual(self.yard["id", 0][0], 10)

    def test_an_error_leaves_both(self):
        with self.assertRaises(KeyError):
            with self.yard.trial(keep=True):
                self.step(10)
                with self.yard.trial(keep=True):
                    self.step(20)
                    raise KeyError
        self.assertEqual(told_of(self.yard), self.before)

    def test_three(self):
        with self.yard.trial() as one, one.trial(keep=True) as two, two.trial(keep=True) as three:
            three.do(setting(9))
            self.assertIs(three, self.yard)
        self.assertEqual(told_of(self.yard), self.before)


class TriedTest(TrialCase):
    def test_what_is_returned(self):
        for answer in (None, 5, (), [1], "x"):
            self.assertIs(self.yard.tried(lambda yard: answer), answer)
        self.assertIs(self.yard.tried(lambda yard: yard), self.yard)
        self.assertEqual(self.yard.tried(look=lambda yard: yard.do(("read", "shop", 0, "id", 0))), 5)
        self.assertEqual(told_of(self.yard), self.before)

    def test_it_is_set_back(self):
        def look(yard):
            yard.do(setting(9))
            return yard["id", 0]

        self.assertEqual(self.yard.tried(look), (9, 9, None))
        self.assertEqual(told_of(self.yard), self.before)
        self.assertEqual(self.yard.tried(keep=True, look=look), (9, 9, None))
        self.assertEqual(self.yard["id", 0], (9, 9, None))

    def test_errors(self):
        def look(yard):
            yard.do(setting(9))
            yard.do(("begin", ADD))

        for told in TOLD:
            with self.assertRaises(NotNow):
                self.yard.tried(look, **told)
            self.assertEqual(told_of(self.yard), self.before, told)

    def test_what_is_told_of_keep(self):
        for told in TOLD:
            yard = yard_of(SHOP, START)
            self.assertIsNone(yard.tried(lambda held: held.do(setting(9)), **told))
            behind = yard_of(SHOP, START + [setting(9)] * is_kept(told))
            self.assertEqual(told_of(yard), told_of(behind), told)

    def test_beside_trials(self):
        for outer, inner in product(TOLD, repeat=2):
            done = [setting(10), *[setting(20)] * is_kept(inner)] * is_kept(outer)
            behind = told_of(yard_of(SHOP, START + done))

            def look(held):
                held.do(setting(10))
                with held.trial(**inner):
                    held.do(setting(20))

            yard = yard_of(SHOP, START)
            yard.tried(look, **outer)
            self.assertEqual(told_of(yard), behind, (outer, inner))

            yard = yard_of(SHOP, START)
            with yard.trial(**outer):
                yard.do(setting(10))
                yard.tried(lambda held: held.do(setting(20)), **inner)
            self.assertEqual(told_of(yard), behind, (outer, inner))

    def test_within_one_another(self):
        def outer(yard):
            yard.do(setting(9))
            return yard.tried(lambda inner: inner.do(setting(10)), keep=True), yard["id", 0]

        self.assertEqual(self.yard.tried(outer), (None, (10, 10, None)))
        self.assertEqual(told_of(self.yard), self.before)


class DrawnTest(unittest.TestCase):
    def test_drawn_events(self):
        for seed in range(30):
            draw = random.Random(seed)
            yard = led(draw, 30)
            before = told_of(yard)
            with yard.trial():
                lead_on(draw, yard, 10)
                with yard.trial(keep=draw.random() < 0.5):
                    lead_on(draw, yard, 10)
                    for _ in range(draw.randint(0, yard.many)):
                        yard.back()
                lead_on(draw, yard, 5)
            self.assertEqual(told_of(yard), before)


if __name__ == "__main__":
    unittest.main()
