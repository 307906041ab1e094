import unittest
from copy import deepcopy

from samples import NO_SPANS, nested
from widerkeys.errors import BadSpan
from widerkeys.kinds import Kind
from widerkeys.windows import alike, is_span, ordered

GREATEST = 10 ** 18 - 1
BYTE = Kind.unsigned(8)


def plain_alike(kind, one, other):
    """alike, by a search through all pairs."""
    for a in range(one[0], one[1] + 1):
        for b in range(other[0], other[1] + 1):
            if a != b and kind.cut(a) == kind.cut(b):
                return (a, b)
    return None


def plain_ordered(kind, one, other):
    """ordered, by a search through all pairs."""
    for a in range(one[0], one[1] + 1):
        for b in range(other[0], other[1] + 1):
            if (kind.cut(a) < kind.cut(b)) != (a < b):
                return (a, b)
    return None


def spans(low, high):
    return [(first, last) for first in range(low, high + 1) for last in range(first, high + 1)]


def moved(found, by):
    return None if found is None else (found[0] + by, found[1] + by)


class WindowsTest(unittest.TestCase):
    def assert_plain(self, kind, one, other):
        wanted = (plain_alike(kind, one, other), plain_ordered(kind, one, other))
        if (alike(kind, one, other), ordered(kind, one, other)) != wanted:
            self.fail(f"{kind}, {one}, {other}: not {wanted}")


class PlainSearchTest(WindowsTest):
    def test_all_small_spans(self):
        for kind in [Kind(low, high) for low in (-2, -1, 0) for high in range(3)]:
            for one in spans(-5, 5):
                for other in spans(-5, 5):
                    self.assert_plain(kind, one, other)

    def test_wider_kinds(self):
        for kind in (Kind(-3, 4), Kind(0, 6), Kind(-4, 0), Kind(-5, 5)):
            for first in range(-20, 21, 3):
                for other in spans(-2, 4):
                    self.assert_plain(kind, (first, first + 1), other)
                    self.assert_plain(kind, other, (first, first + 9))
                    self.assert_plain(kind, (first, first + 17), other)

    def test_short_spans_far_apart(self):
        for size in (7, 10 ** 6, 2 ** 56, 10 ** 17 - 3):
            kind = Kind(-(size // 3), size - size // 3 - 1)
            for times in (-5, -1, 0, 1, 4):
                for shift in range(-4, 5):
                    first = times * size + shift
                    self.assert_plain(kind, (first, first + 3), (-1, 2))
                    self.assert_plain(kind, (-1, 2), (first, first + 3))
                    edge = kind.high - 1
                    self.assert_plain(kind, (first + edge, first + edge + 3), (edge, edge + 2))
                    self.assert_plain(kind, (edge, edge + 2), (first + edge, first + edge + 3))


class GreatTest(WindowsTest):
    def test_moved_by_windows(self):
        # Cuts do not change if all numbers move by a multiple of the size.
        for kind in (Kind(0, 0), Kind(0, 4), Kind(-2, 1), Kind(-3, 3)):
            for times in (10 ** 17 // kind.size, -(10 ** 17) // kind.size):
                by = times * kind.size
                for one in spans(-4, 5)[::3]:
                    for other in spans(-5, 4)[::2]:
                        self.assertEqual(
                            alike(kind, moved(one, by), moved(other, by)), moved(alike(kind, one, other), by)
                        )
                        self.assertEqual(
                            ordered(kind, moved(one, by), moved(other, by)), moved(ordered(kind, one, other), by)
                        )

    def test_alike_in_blocks(self):
        # Blocks of numbers are alike just if the numbers of these blocks are.
        block = 10 ** 16
        for kind in (Kind(0, 0), Kind(0, 4), Kind(-2, 1)):
            great = Kind(kind.low * block, kind.high * block + block - 1)
            for one in spans(-4, 6):
                for other in spans(-6, 4)[::2]:
                    found = alike(kind, one, other)
                    wanted = None if found is None else (found[0] * block, found[1] * block)
                    self.assertEqual(alike(great, in_blocks(one, block), in_blocks(other, block)), wanted)

    def test_ordered_in_blocks(self):
        # The least pair stands in the same blocks, and in the same of their
        # first two places, for blocks of two numbers and of many.
        block = 10 ** 16
        for kind in (Kind(0, 0), Kind(0, 3), Kind(-2, 1)):
            short = Kind(kind.low * 2, kind.high * 2 + 1)
            great = Kind(kind.low * block, kind.high * block + block - 1)
            for one in spans(-4, 6)[::2]:
                for other in spans(-6, 4)[::3]:
                    found = plain_ordered(short, in_blocks(one, 2), in_blocks(other, 2))
                    wanted = None if found is None else tuple(n // 2 * block + n % 2 for n in found)
                    self.assertEqual(ordered(great, in_blocks(one, block), in_blocks(other, block)), wanted)

    def test_great_kinds(self):
        kind = Kind.digits(17)
        size = 10 ** 17
        self.assertIsNone(alike(kind, (5, size + 4), (5, size + 4)))
        self.assertEqual(alike(kind, (5, size + 5), (5, size + 5)), (5, size + 5))
        self.assertIsNone(ordered(kind, (size, 2 * size - 1), (size, 2 * size - 1)))
        self.assertEqual(ordered(kind, (size, 2 * size), (size, 2 * size)), (size, 2 * size))
        self.assertEqual(ordered(kind, (size - 1, 2 * size - 1), (size - 1, 2 * size - 1)), (size - 1, size))

    def test_great_signed_kinds(self):
        kind = Kind.signed(56)
        half = 2 ** 55
        self.assertIsNone(alike(kind, (-half, half - 1), (-half, half - 1)))
        self.assertIsNone(ordered(kind, (-half, half - 1), (-half, half - 1)))
        self.assertEqual(alike(kind, (-half, half), (-half, half)), (-half, half))
        self.assertEqual(ordered(kind, (-half, half), (-half, half)), (-half, half))
        self.assertEqual(ordered(kind, (0, half), (0, half)), (0, half))
        self.assertIsNone(alike(kind, (0, half), (0, half)))

    def test_small_kinds_and_endless_spans(self):
        wide = (-GREATEST, GREATEST)
        self.assertEqual(alike(Kind(0, 0), wide, wide), (-GREATEST, 1 - GREATEST))
        self.assertEqual(ordered(Kind(0, 0), wide, wide), (-GREATEST, 1 - GREATEST))
        self.assertEqual(alike(BYTE, wide, wide), (-GREATEST, 256 - GREATEST))
        self.assertEqual(alike(BYTE, (3, 3), wide), (3, 2 - GREATEST))
        self.assertEqual(alike(BYTE, wide, (GREATEST, GREATEST)), (254 - GREATEST, GREATEST))
        self.assertEqual(ordered(BYTE, wide, wide), (-GREATEST, 255 - GREATEST))
        self.assertEqual(ordered(BYTE, (3, 3), wide), (3, 3 - GREATEST))
        self.assertEqual(ordered(BYTE, wide, (0, 0)), (-GREATEST, 0))

    def test_kinds_of_one_number(self):
        kind = Kind(0, 0)
        self.assertIsNone(alike(kind, (7, 7), (7, 7)))
        self.assertEqual(alike(kind, (7, 7), (8, 8)), (7, 8))
        self.assertEqual(alike(kind, (7, 8), (7, 7)), (8, 7))
        self.assertIsNone(ordered(kind, (7, 7), (7, 7)))
        self.assertEqual(ordered(kind, (7, 7), (8, 8)), (7, 8))
        self.assertIsNone(ordered(kind, (8, GREATEST), (-GREATEST, 8)))
        self.assertEqual(ordered(kind, (-GREATEST, GREATEST), (8, 9)), (-GREATEST, 8))


def in_blocks(span, block):
    return (span[0] * block, span[1] * block + block - 1)


class EdgesTest(WindowsTest):
    def test_just_one_window_and_one_number_beyond(self):
        for first in (-300, -256, -1, 0, 100, 256):
            self.assertIsNone(alike(BYTE, (first, first + 255), (first, first + 255)))
            self.assertEqual(alike(BYTE, (first, first + 256), (first, first + 256)), (first, first + 256))
        self.assertIsNone(ordered(BYTE, (0, 255), (0, 255)))
        self.assertEqual(ordered(BYTE, (0, 256), (0, 256)), (0, 256))
        self.assertEqual(ordered(BYTE, (-1, 255), (-1, 255)), (-1, 0))

    def test_spans_that_meet(self):
        self.assertIsNone(alike(BYTE, (0, 100), (101, 255)))
        self.assertEqual(alike(BYTE, (0, 100), (101, 256)), (0, 256))
        self.assertEqual(alike(BYTE, (101, 256), (0, 100)), (256, 0))
        self.assertIsNone(ordered(BYTE, (0, 100), (100, 255)))
        self.assertEqual(ordered(BYTE, (50, 100), (100, 306)), (50, 256))
        self.assertEqual(ordered(BYTE, (200, 256), (100, 200)), (256, 100))

    def test_spans_apart(self):
        self.assertIsNone(alike(BYTE, (0, 10), (500, 511)))
        self.assertEqual(alike(BYTE, (0, 10), (500, 522)), (0, 512))
        self.assertIsNone(alike(BYTE, (3, 10), (0, 2)))
        self.assertEqual(alike(BYTE, (500, 600), (5, 5)), (517, 5))
        self.assertIsNone(ordered(BYTE, (0, 10), (300, 310)))
        self.assertEqual(ordered(BYTE, (0, 50), (300, 310)), (44, 300))
        self.assertEqual(ordered(BYTE, (300, 310), (0, 50)), (300, 45))
        self.assertIsNone(ordered(BYTE, (300, 310), (0, 44)))

    def test_one_number_in_both(self):
        for number in (-257, -1, 0, 255, 256, GREATEST):
            self.assertIsNone(alike(BYTE, (number, number), (number, number)))
            self.assertIsNone(ordered(BYTE, (number, number), (number, number)))

    def test_the_least_pair_may_have_the_lesser_number_second(self):
        self.assertEqual(alike(BYTE, (256, 600), (0, 900)), (256, 0))
        self.assertEqual(ordered(BYTE, (256, 600), (0, 900)), (256, 1))

    def test_one_and_other_are_not_alike(self):
        self.assertEqual(alike(Kind(-2, 2), (0, 1), (5, 9)), (0, 5))
        self.assertEqual(alike(Kind(-2, 2), (5, 9), (0, 1)), (5, 0))
        self.assertIsNone(ordered(Kind(-2, 2), (3, 3), (-2, -2)))
        self.assertEqual(ordered(Kind(-2, 2), (-2, -2), (3, 3)), (-2, 3))

    def test_arguments_by_name(self):
        told = alike(other=(1, 10), one=(8, 9), kind=Kind(0, 4))
        self.assertEqual(told, (8, 3))
        self.assertEqual(ordered(other=(1, 10), one=(8, 9), kind=Kind(0, 4)), (8, 4))

    def test_results_are_tuples_and_equal_calls_are_equal(self):
        for tell in (alike, ordered):
            told = tell(BYTE, (0, 300), (0, 300))
            self.assertIsInstance(told, tuple)
            self.assertEqual([isinstance(number, int) for number in told], [True, True])
            self.assertEqual(tell(BYTE, (0, 300), (0, 300)), told)


class BadSpanTest(unittest.TestCase):
    def assert_bad(self, one, other, value):
        for tell in (alike, ordered):
            with self.subTest(tell.__name__, one=one, other=other):
                before = deepcopy((one, other))
                with self.assertRaises(BadSpan) as caught:
                    tell(BYTE, one, other)
                self.assertIs(caught.exception.value, value)
                self.assertEqual((one, other), before)

    def test_of_one(self):
        for value in NO_SPANS + (nested(20),):
            self.assert_bad(value, (1, 2), value)

    def test_of_other(self):
        for value in NO_SPANS + (nested(20),):
            self.assert_bad((1, 2), value, value)

    def test_of_one_first(self):
        for value in NO_SPANS:
            self.assert_bad(value, [5], value)
            one = [value]
            self.assert_bad(one, value, one)

    def test_by_name(self):
        with self.assertRaises(BadSpan) as caught:
            alike(other=[1, 2], one=(True, 2), kind=BYTE)
        self.assertEqual(caught.exception.value, (True, 2))
        with self.assertRaises(BadSpan) as caught:
            ordered(other=[1, 2], one=(1, 2), kind=BYTE)
        self.assertEqual(caught.exception.value, [1, 2])

    def test_is_span(self):
        for value in ((0, 0), (-1, 0), (-GREATEST, GREATEST), (5, 6)):
            self.assertIs(is_span(value), True)
        for value in NO_SPANS + (nested(20),):
            with self.subTest(value=value):
                self.assertIs(is_span(value), False)


class ExampleTest(unittest.TestCase):
    def test_section_5(self):
        self.assertIsNone(alike(BYTE, (100, 355), (100, 355)))
        self.assertEqual(alike(BYTE, (100, 356), (100, 356)), (100, 356))
        self.assertIsNone(ordered(BYTE, (256, 511), (256, 511)))
        self.assertEqual(ordered(BYTE, (250, 260), (250, 260)), (250, 256))


if __name__ == "__main__":
    unittest.main()
