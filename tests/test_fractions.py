import math
import unittest

from mostrows.fractions import lowest


class Lowest(unittest.TestCase):
    def test_of_nought(self):
        for bottom in (1, 2, 7, 10 ** 30):
            self.assertEqual(lowest(0, bottom), (0, 1))

    def test_in_lowest_terms_already(self):
        for fraction in ((1, 1), (3, 2), (2, 3), (-3, 2), (-1, 7), (10 ** 20, 3)):
            self.assertEqual(lowest(*fraction), fraction)

    def test_others(self):
        self.assertEqual(lowest(6, 4), (3, 2))
        self.assertEqual(lowest(4, 6), (2, 3))
        self.assertEqual(lowest(12, 4), (3, 1))
        self.assertEqual(lowest(5, 5), (1, 1))
        self.assertEqual(lowest(3 * 10 ** 40, 6 * 10 ** 39), (5, 1))

    def test_below_nought(self):
        self.assertEqual(lowest(-6, 4), (-3, 2))
        self.assertEqual(lowest(-4, 6), (-2, 3))
        self.assertEqual(lowest(-12, 4), (-3, 1))
        self.assertEqual(lowest(-5, 5), (-1, 1))

    def test_many(self):
        for top in range(-60, 61):
            for bottom in range(1, 40):
                told = lowest(top, bottom)
                self.assertIsInstance(told, tuple)
                self.assertEqual(told[0] * bottom, top * told[1])
                self.assertEqual(math.gcd(*told), 1)
                self.assertGreaterEqual(told[1], 1)
