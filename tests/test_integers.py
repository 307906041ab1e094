import unittest

from samples import NO_INTEGERS
from widerkeys.integers import greater, is_between, is_integer, lesser, read_integer


class IntegersTest(unittest.TestCase):
    def test_integers(self):
        for number in (0, 1, -1, 255, 10 ** 18 - 1, -10 ** 18 + 1):
            with self.subTest(number):
                self.assertIs(is_integer(number), True)

    def test_no_integers(self):
        for value in NO_INTEGERS:
            with self.subTest(value=value):
                self.assertIs(is_integer(value), False)

    def test_between(self):
        told = [is_between(number, -1, 2) for number in (-2, -1, 0, 2, 3)]
        self.assertEqual(told, [False, True, True, True, False])
        for value in NO_INTEGERS:
            with self.subTest(value=value):
                self.assertIs(is_between(value, -1, 2), False)

    def test_lesser_and_greater(self):
        for one, other in ((1, 2), (2, 1), (2, 2), (-3, 0), (0, -3)):
            with self.subTest((one, other)):
                self.assertEqual(lesser(one, other), min(one, other))
                self.assertEqual(greater(one, other), max(one, other))

    def test_read(self):
        for number in (0, 1, -1, 9, 10, 100, -100, 10 ** 18 - 1, -10 ** 18 + 1):
            with self.subTest(number):
                self.assertEqual(read_integer(str(number)), number)

    def test_read_what_shows_no_integer(self):
        texts = (
            "", "-", "--1", "-0", "00", "01", "-01", "+1", "1-", " 1", "1 ", "1\n", "1_0", "1.0", "0x1",
            "a", "1a", "\u0661", "1\u0661", "\u00b2", "\uff11", "1" + "0" * 18, "-1" + "0" * 18, "1" * 4000,
        )
        for text in texts:
            with self.subTest(text):
                self.assertIsNone(read_integer(text))


if __name__ == "__main__":
    unittest.main()
