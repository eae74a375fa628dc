"""Checks: the beginning of point [28]."""

import random
import unittest

from narrowingbits.checks import check
from narrowingbits.errors import BadBits

from cell_reference import remainder


class CheckTest(unittest.TestCase):

    def test_the_examples(self):
        self.assertEqual(check([1] + [0] * 47), [1, 1, 1, 0, 1, 1, 0, 0])
        self.assertEqual(check([0] * 47 + [1]), [0, 0, 0, 0, 0, 1, 1, 1])

    def test_few_bits(self):
        self.assertEqual(check([]), [0] * 8)
        self.assertEqual(check([0]), [0] * 8)
        self.assertEqual(check([1]), [0, 0, 0, 0, 0, 1, 1, 1])
        self.assertEqual(check([1, 1]), [0, 0, 0, 0, 1, 0, 0, 1])
        self.assertEqual(check([0] * 1000), [0] * 8)

    def test_any_number_of_bits(self):
        source = random.Random(1)
        for length in list(range(130)) + [1000, 4096]:
            bits = [source.randint(0, 1) for _ in range(length)]
            before = list(bits)
            found = check(bits=bits)
            self.assertEqual(found, remainder(bits))
            self.assertEqual(check(bits + found), [0] * 8)
            found.append(1)
            self.assertEqual(check(bits), remainder(bits))
            self.assertEqual(bits, before)

    def test_what_is_no_bit(self):
        for thing in (2, -1, None, "0", 1.5, [1]):
            for bits in ([thing], [0, 1, thing], [thing] + [0] * 60, [0] * 60 + [thing]):
                with self.assertRaises(BadBits):
                    check(bits)


if __name__ == "__main__":
    unittest.main()
