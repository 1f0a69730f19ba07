"""linpapers/limits.py: the twelve integers."""

import unittest

from linpapers import limits

LIMITS = {
    "ROWS": 8, "UNKNOWNS": 4, "DIGITS": 6, "LETTERS": 8, "PARTS": 8, "FORMULAS": 40,
    "DEPTH": 12, "STEPS": 300, "BOX": 3, "SIDE": 20, "FACTS": 12, "LEVELS": 8,
}


class Limits(unittest.TestCase):
    def test_each_integer(self):
        self.assertEqual(len(LIMITS), 12)
        for name in LIMITS:
            self.assertEqual(getattr(limits, name), LIMITS[name], name)
            self.assertIs(type(getattr(limits, name)), int, name)


if __name__ == "__main__":
    unittest.main()
