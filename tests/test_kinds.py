import unittest
from copy import deepcopy
from operator import and_, ge, gt, le, lt, or_

from samples import NO_INTEGERS, nested
from widerkeys.errors import BadBits, BadKind, BadNumber
from widerkeys.kinds import Kind

SMALL_KINDS = [Kind(low, high) for low in range(-3, 1) for high in range(4)]
GREATEST = 10 ** 18 - 1


class MakingTest(unittest.TestCase):
    def test_ends_and_size(self):
        ends = ((0, 255, 256), (-128, 127, 256), (0, 0, 1), (-5, 0, 6), (0, 5, 6), (-1, 1, 3))
        great = ((-GREATEST, GREATEST, 2 * GREATEST + 1), (0, GREATEST, 10 ** 18), (-GREATEST, 0, 10 ** 18))
        for low, high, size in ends + great:
            with self.subTest((low, high)):
                kind = Kind(low, high)
                self.assertEqual((kind.low, kind.high, kind.size), (low, high, size))

    def test_by_name_in_another_sequence(self):
        kind = Kind(high=7, low=-8)
        self.assertEqual((kind.low, kind.high), (-8, 7))

    def test_zero_has_to_be_in_it(self):
        for low, high in ((1, 2), (-2, -1), (1, 0), (0, -1), (5, -5), (1, 1), (-1, -1), (GREATEST, GREATEST)):
            self.assert_no_kind(low, high)

    def test_both_ends_have_to_be_integers(self):
        for value in NO_INTEGERS:
            self.assert_no_kind(value, 5)
            self.assert_no_kind(-5, value)
            self.assert_no_kind(value, value)
            self.assert_no_kind([value], {"a": value})

    def test_both_ends_are_told_wherever_the_fault_is(self):
        self.assert_no_kind(1, True)
        self.assert_no_kind(False, -1)
        self.assert_no_kind(False, True)

    def test_wrong_ends_by_name(self):
        with self.assertRaises(BadKind) as caught:
            Kind(high=-1, low=0)
        self.assertEqual((caught.exception.one, caught.exception.other), (0, -1))

    def assert_no_kind(self, low, high):
        with self.subTest(low=low, high=high):
            before = deepcopy((low, high))
            with self.assertRaises(BadKind) as caught:
                Kind(low, high)
            self.assertIs(caught.exception.one, low)
            self.assertIs(caught.exception.other, high)
            self.assertEqual((low, high), before)


class MembersTest(unittest.TestCase):
    def test_numbers(self):
        for kind in SMALL_KINDS:
            for number in range(-6, 7):
                with self.subTest(str(kind), number=number):
                    self.assertIs(number in kind, kind.low <= number <= kind.high)

    def test_great_numbers(self):
        kind = Kind(-GREATEST, GREATEST - 1)
        self.assertEqual(
            [number in kind for number in (-GREATEST - 1, -GREATEST, GREATEST - 1, GREATEST)],
            [False, True, True, False],
        )

    def test_what_is_no_integer_is_in_no_kind(self):
        for value in NO_INTEGERS + (nested(20),):
            with self.subTest(value=value):
                self.assertIs(value in Kind(-5, 5), False)

    def test_a_kind_is_in_no_kind(self):
        self.assertIs(Kind(0, 1) in Kind(0, 5), False)


class CutTest(unittest.TestCase):
    def test_by_a_plain_search(self):
        for kind in SMALL_KINDS:
            numbers = range(kind.low, kind.high + 1)
            for number in range(-20, 21):
                with self.subTest(str(kind), number=number):
                    wanted = [cut for cut in numbers if (number - cut) % kind.size == 0]
                    self.assertEqual([kind.cut(number)], wanted)

    def test_known_ones(self):
        self.assertEqual(Kind.unsigned(8).cut(300), 44)
        self.assertEqual(Kind.signed(8).cut(200), -56)
        self.assertEqual(Kind.signed(8).cut(-129), 127)
        self.assertEqual(Kind.unsigned(8).cut(-1), 255)
        self.assertEqual(Kind(0, 0).cut(17), 0)

    def test_great_ones(self):
        self.assertEqual(Kind.unsigned(56).cut(2 ** 57 + 3), 3)
        self.assertEqual(Kind.signed(56).cut(2 ** 55), -2 ** 55)
        self.assertEqual(Kind(0, 10 ** 17 - 1).cut(-GREATEST), 1)
        self.assertEqual(Kind(-GREATEST, GREATEST).cut(GREATEST), GREATEST)
        self.assertEqual(Kind(-GREATEST, GREATEST).cut(GREATEST + 1), -GREATEST)
        self.assertEqual(Kind(0, 6).cut(GREATEST), GREATEST % 7)

    def test_by_name(self):
        self.assertEqual(Kind(0, 9).cut(number=25), 5)

    def test_what_is_no_integer(self):
        kind = Kind(-5, 5)
        for value in NO_INTEGERS + (nested(20),):
            with self.subTest(value=value):
                before = deepcopy(value)
                with self.assertRaises(BadNumber) as caught:
                    kind.cut(value)
                self.assertIs(caught.exception.value, value)
                self.assertEqual(value, before)
        self.assertEqual((kind.low, kind.high, kind.size, kind.cut(6)), (-5, 5, 11, -5))

    def test_equal_calls(self):
        kind = Kind(-5, 5)
        self.assertEqual(kind.cut(123), kind.cut(123))


class ComparingTest(unittest.TestCase):
    def test_by_the_sets_of_their_numbers(self):
        for one in SMALL_KINDS:
            for other in SMALL_KINDS:
                with self.subTest((str(one), str(other))):
                    self.assert_compares(one, other, numbers_of(one), numbers_of(other))

    def assert_compares(self, one, other, some, others):
        self.assertIs(one <= other, some <= others)
        self.assertIs(one < other, some < others)
        self.assertIs(one >= other, some >= others)
        self.assertIs(one > other, some > others)
        self.assertIs(one == other, some == others)
        self.assertIs(one != other, some != others)
        self.assertEqual(numbers_of(one & other), some & others)
        self.assertEqual(((one | other).low, (one | other).high), (min(some | others), max(some | others)))

    def test_perhaps_none_of_these_is_so(self):
        one, other = Kind(-1, 5), Kind(-5, 1)
        self.assertEqual([one <= other, one < other, one >= other, one > other, one == other], [False] * 5)

    def test_great_ones(self):
        one, other = Kind(-GREATEST, GREATEST - 1), Kind(1 - GREATEST, GREATEST)
        self.assertEqual([one <= other, one >= other], [False, False])
        self.assertEqual(one & other, Kind(1 - GREATEST, GREATEST - 1))
        self.assertEqual(one | other, Kind(-GREATEST, GREATEST))
        self.assertIs(one & other < one, True)
        self.assertIs(one | other > other, True)

    def test_results_are_new_kinds(self):
        one, other = Kind(0, 5), Kind(-5, 9)
        both = (one & other, one | other)
        self.assertEqual([isinstance(kind, Kind) for kind in both], [True, True])
        self.assertEqual([kind.size for kind in both], [6, 15])
        self.assertEqual([one, other], [Kind(0, 5), Kind(-5, 9)])

    def test_equal_to_nothing_else(self):
        kind = Kind(0, 1)
        for value in NO_INTEGERS + (0, 1, 2, "0..1", nested(20)):
            with self.subTest(value=value):
                self.assertIs(kind == value, False)
                self.assertIs(value == kind, False)
                self.assertIs(kind != value, True)

    def test_only_kinds_have_an_order(self):
        for value in (5, None, "0..1", (0, 1)):
            for compare in (le, lt, ge, gt, and_, or_):
                with self.subTest(compare.__name__, value=value), self.assertRaises(TypeError):
                    compare(Kind(0, 1), value)


def numbers_of(kind):
    return set(range(kind.low, kind.high + 1))


class BitsTest(unittest.TestCase):
    def test_signed(self):
        for bits in range(1, 57):
            with self.subTest(bits):
                self.assertEqual(Kind.signed(bits), Kind(-2 ** (bits - 1), 2 ** (bits - 1) - 1))

    def test_unsigned(self):
        for bits in range(1, 57):
            with self.subTest(bits):
                self.assertEqual(Kind.unsigned(bits), Kind(0, 2 ** bits - 1))

    def test_digits(self):
        for many in range(1, 18):
            with self.subTest(many):
                self.assertEqual(Kind.digits(many), Kind(0, 10 ** many - 1))

    def test_the_edges(self):
        self.assertEqual(Kind.signed(1), Kind(-1, 0))
        self.assertEqual(Kind.unsigned(1), Kind(0, 1))
        self.assertEqual(Kind.digits(1), Kind(0, 9))
        self.assertEqual(Kind.signed(56), Kind(-36028797018963968, 36028797018963967))
        self.assertEqual(Kind.unsigned(56), Kind(0, 72057594037927935))
        self.assertEqual(Kind.digits(17), Kind(0, 99999999999999999))

    def test_by_name(self):
        self.assertEqual(Kind.signed(bits=8), Kind(-128, 127))
        self.assertEqual(Kind.unsigned(bits=8), Kind(0, 255))
        self.assertEqual(Kind.digits(many=3), Kind(0, 999))

    def test_bad_bits(self):
        for value in NO_INTEGERS + (0, -1, 57, 64, 1000, -GREATEST, GREATEST, nested(20)):
            self.assert_bad_bits(Kind.signed, value)
            self.assert_bad_bits(Kind.unsigned, value)

    def test_bad_digits(self):
        for value in NO_INTEGERS + (0, -1, 18, 56, 1000, -GREATEST, GREATEST, nested(20)):
            self.assert_bad_bits(Kind.digits, value)

    def assert_bad_bits(self, make, value):
        with self.subTest(make=make.__name__, value=value):
            before = deepcopy(value)
            with self.assertRaises(BadBits) as caught:
                make(value)
            self.assertIs(caught.exception.value, value)
            self.assertEqual(value, before)


class ExampleTest(unittest.TestCase):
    def test_section_4(self):
        byte, word = Kind.unsigned(8), Kind.unsigned(16)
        told = [byte.cut(300), Kind.signed(8).cut(200), byte < word, byte <= Kind.signed(8)]
        told += [str(byte & Kind.signed(8)), str(Kind.read("digits 3") | Kind(-5, 5))]
        self.assertEqual(told, [44, -56, True, False, "0..127", "-5..999"])


if __name__ == "__main__":
    unittest.main()
