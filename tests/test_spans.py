import unittest

from widerkeys.errors import BadPlan, BadSpan
from widerkeys.kinds import Kind
from widerkeys.runs import shows_wrong
from widerkeys.steps import moments
from widerkeys.worlds import World

from players import ADD, BYTE, DOUBLE, ELDER, NEWER, SHOP, world_of
from samples import NO_SPANS, nested

# Small numbers from -8 to 7, great ones from 8 to 100.
SIGNED = world_of(("wide", (), ()), narrow=Kind(-8, 7), wide=Kind(-50, 100))


def span_behind(span, plan):
    """The span in use behind steps of which some are grows and purges."""
    first, last = span
    for step in plan:
        if step[0] == "grow":
            last = step[1]
        if step[0] == "purge":
            first = step[1]
    return first, last


class SpanTest(unittest.TestCase):
    def assert_fit(self, world, *spans):
        for span in spans:
            self.assertEqual(moments(world, span, ())[0][4], span)

    def assert_unfit(self, world, *spans):
        for span in spans:
            for plan in ((), None, (None,)):
                with self.assertRaises(BadSpan) as caught:
                    moments(world, span, plan)
                self.assertIs(caught.exception.value, span)
                with self.assertRaises(BadSpan) as caught:
                    shows_wrong(world, span, plan, None)
                self.assertIs(caught.exception.value, span)

    def test_other_values(self):
        self.assert_unfit(SHOP, *NO_SPANS, nested(20), (nested(19), nested(19)), BYTE, (BYTE, BYTE))

    def test_15_and_16_small_numbers(self):
        self.assert_unfit(SHOP, (0, 0), (0, 14), (1, 15), (240, 254), (241, 255), (255, 255), (5, 5))
        self.assert_fit(SHOP, (0, 15), (1, 16), (239, 254), (240, 255), (0, 16), (0, 255))

    def test_15_and_16_great_numbers(self):
        self.assert_unfit(SHOP, (0, 256), (0, 260), (0, 270), (256, 270), (300, 314), (300, 300), (65535, 65535))
        self.assert_fit(SHOP, (0, 271), (256, 271), (300, 315), (65520, 65535), (0, 65535))
        self.assert_unfit(SHOP, (65521, 65535))

    def test_small_and_great_ones(self):
        self.assert_fit(SHOP, (240, 271))
        self.assert_unfit(SHOP, (241, 271), (240, 270), (241, 270), (255, 300), (241, 65535))

    def test_firsts_at_and_below_the_narrow_kind(self):
        self.assert_fit(SHOP, (0, 100))
        self.assert_unfit(SHOP, (-1, 100), (-100, -1))
        self.assert_fit(SIGNED, (-8, 7))
        self.assert_unfit(SIGNED, (-7, 7), (-9, 7), (-8, 6), (-50, 7), (-50, -9), (-40, -9))

    def test_lasts_at_and_beyond_the_wide_kind(self):
        self.assert_fit(SHOP, (1, 65535))
        self.assert_unfit(SHOP, (1, 65536), (1, 10 ** 17), (65536, 70000))
        self.assert_fit(SIGNED, (-8, 100), (85, 100))
        self.assert_unfit(SIGNED, (-8, 101), (86, 100), (86, 101))

    def test_ahead_of_all_of_the_plan(self):
        self.assert_unfit(SHOP, (1, 5), (2, 1), None)


class GrowTest(unittest.TestCase):
    def assert_last(self, good, span, *plan, world=SHOP):
        if good:
            self.assertEqual(moments(world, span, plan)[-1][4], span_behind(span, plan))
            return
        with self.assertRaises(BadPlan) as caught:
            moments(world, span, plan)
        self.assertEqual(caught.exception.index, len(plan) - 1)

    def test_grows_to_greater_numbers_alone(self):
        for last, good in ((201, True), (255, True), (200, False), (199, False), (0, False), (-5, False)):
            self.assert_last(good, (1, 200), ("grow", last))

    def test_grows_have_to_be_fit(self):
        for last, good in ((256, False), (260, False), (270, False), (271, True), (65535, True), (65536, False)):
            self.assert_last(good, (1, 200), ("grow", last))
            self.assert_last(good, (1, 200), ("grow", 255), ("grow", last))
        self.assert_last(False, (-8, 7), ("grow", 101), world=SIGNED)
        self.assert_last(True, (-8, 7), ("grow", 100), world=SIGNED)

    def test_purges_to_greater_numbers_up_to_the_last_one(self):
        for first, good in ((1, False), (0, False), (-1, False), (2, True), (185, True), (186, False), (201, False)):
            self.assert_last(good, (1, 200), ("purge", first))
        self.assert_last(False, (1, 200), ("purge", 50), ("purge", 50))
        self.assert_last(False, (1, 200), ("purge", 50), ("purge", 49))
        self.assert_last(True, (1, 200), ("purge", 50), ("purge", 51))

    def test_purges_of_all_small_numbers(self):
        for first, good in ((239, True), (240, True), (241, False), (255, False), (256, True), (285, True)):
            self.assert_last(good, (1, 300), ("purge", first))
        for first, good in ((286, False), (300, False), (301, False)):
            self.assert_last(good, (1, 300), ("purge", first))

    def test_purges_behind_a_grow_and_an_earlier_last(self):
        # From 50 to 200 there are enough, from 190 to 200 too few, from 201 on none up to 200.
        grow = ("grow", 255)
        for first, good in ((185, True), (186, False), (200, False), (201, True), (240, True), (241, False)):
            self.assert_last(good, (1, 200), grow, ("purge", first))

    def test_purges_behind_several_grows(self):
        grows = (("grow", 120), ("grow", 140), ("grow", 400))
        wanted = {
            85: True,
            86: False,
            100: False,
            101: True,
            105: True,
            106: False,
            120: False,
            121: True,
            125: True,
            126: False,
            140: False,
            141: True,
            240: True,
            241: False,
            256: True,
            385: True,
            386: False,
        }
        for first, good in wanted.items():
            self.assert_last(good, (1, 100), *grows, ("purge", first))
            self.assert_last(good, (1, 100), grows[0], ("purge", 50), *grows[1:], ("purge", first))

    def test_earlier_lasts_that_are_great(self):
        grows = (("grow", 300), ("grow", 400))
        for first, good in ((285, True), (286, False), (300, False), (301, True), (385, True), (386, False)):
            self.assert_last(good, (1, 100), *grows, ("purge", first))

    def test_grows_behind_a_purge(self):
        # Only the span behind the grow itself has to be fit.
        self.assert_last(True, (1, 100), ("purge", 50), ("grow", 101))
        self.assert_last(False, (1, 300), ("purge", 285), ("grow", 300))
        self.assert_last(True, (1, 300), ("purge", 285), ("grow", 301))
        self.assert_last(True, (1, 255), ("purge", 240), ("grow", 271))
        self.assert_last(False, (1, 255), ("purge", 240), ("grow", 270))


class WorldsTest(unittest.TestCase):
    def test_a_span_is_fit_for_its_world(self):
        tiny = World(Kind(0, 15), Kind(0, 31), ("id",), (("shop", (ELDER, DOUBLE, NEWER)),))
        self.assertEqual(moments(tiny, (0, 15), (ADD, ("grow", 31)))[-1][4], (0, 31))
        self.assertEqual(moments(tiny, (0, 15), (("grow", 31), ("purge", 16)))[-1][4], (16, 31))
        for span, plan in (((0, 15), (("grow", 30),)), ((0, 31), (("purge", 1),)), ((0, 31), (("purge", 17),))):
            with self.assertRaises(BadPlan):
                moments(tiny, span, plan)
        for span in ((1, 15), (1, 16), (0, 16), (0, 30), (0, 32)):
            with self.assertRaises(BadSpan):
                moments(tiny, span, ())


if __name__ == "__main__":
    unittest.main()
