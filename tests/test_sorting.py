import random
import unittest

from widerkeys.sorting import ascending


class AscendingTest(unittest.TestCase):
    def test_few(self):
        for items in ([], [1], [2, 1], [1, 2], [1, 1], [3, 1, 2], [1, 3, 1], ["b", "a"], [("a", 2), ("a", 1), ("a", 2)]):
            given = list(items)
            self.assertEqual(ascending(given), tuple(sorted(set(items))))
            self.assertEqual(given, items)

    def test_many(self):
        draw = random.Random(7)
        for many in range(60):
            items = [(draw.randint(0, 9), draw.choice("ab")) for _ in range(many)]
            self.assertEqual(ascending(items), tuple(sorted(set(items))))


if __name__ == "__main__":
    unittest.main()
