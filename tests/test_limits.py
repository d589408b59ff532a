import unittest

from closedroads import limits


class Limits(unittest.TestCase):
    def test_the_five_limits(self):
        told = [limits.MOST_ROADS, limits.MOST_COST, limits.MOST_AMOUNT, limits.MOST_PART]
        self.assertEqual(told + [limits.MOST_CLOSED], [8, 1000000, 1000000, 1000, 3])

    def test_they_are_integers(self):
        for name in ("MOST_ROADS", "MOST_COST", "MOST_AMOUNT", "MOST_PART", "MOST_CLOSED"):
            self.assertIs(type(getattr(limits, name)), int, name)


if __name__ == "__main__":
    unittest.main()
