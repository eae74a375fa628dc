"""Pairs and the way back: the beginning of point [7]."""

import unittest

from narrowingbits.pairs import back, pair

GREAT = (10 ** 30, 10 ** 30 + 1, -10 ** 30, -10 ** 30 - 1, 2 ** 200, 2 ** 64 - 1, 1 - 2 ** 64, 0)


class PairsTest(unittest.TestCase):

    def test_named_pairs(self):
        for a, b, told in ((5, 2, (3, 3)), (2, 5, (3, -3)), (7, 7, (7, 0)), (0, 0, (0, 0)),
                           (1, 0, (0, 1)), (0, 1, (0, -1)), (-1, 0, (-1, -1)), (0, -1, (-1, 1)),
                           (-5, -2, (-4, -3)), (255, 0, (127, 255)), (4, 2, (3, 2)), (-3, 2, (-1, -5))):
            self.assertEqual(pair(a, b), told)
            self.assertEqual(back(*told), (a, b))

    def test_s_is_the_half_sum(self):
        for a in range(-12, 13):
            for b in range(-12, 13):
                self.assertEqual(pair(a, b), ((a + b) // 2, a - b))

    def test_each_undoes_the_other(self):
        for a in range(-12, 13):
            for b in range(-12, 13):
                self.assertEqual(back(*pair(a, b)), (a, b))
                self.assertEqual(pair(*back(a, b)), (a, b))

    def test_great_numbers(self):
        for a in GREAT:
            for b in GREAT:
                self.assertEqual(pair(a, b), ((a + b) // 2, a - b))
                self.assertEqual(back(*pair(a, b)), (a, b))
                self.assertEqual(pair(*back(a, b)), (a, b))

    def test_names_and_kinds(self):
        self.assertEqual(pair(b=2, a=5), (3, 3))
        self.assertEqual(back(d=3, s=3), (5, 2))
        self.assertIsInstance(pair(1, 2), tuple)
        self.assertIsInstance(back(1, 2), tuple)


if __name__ == "__main__":
    unittest.main()
