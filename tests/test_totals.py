"""Sums of samples: point [17]."""

import itertools
import unittest

from narrowingbits.boxes import Box
from narrowingbits.errors import Coloured, Outside
from narrowingbits.settings import Setting
from narrowingbits.totals import total

from picture_reference import (box_told, channel_count, filled_rows, members_of, some_box, some_settings)

TWO_CELLS = Setting((0, 2, 0, 1), 0, 1, 0, "X", 3, (9,), "LBTC")
EXAMPLE = Box(TWO_CELLS, [[[(3, 3)]], [[(-7, 7)]]])


def sums_of(pictures, c):
    return [sum(sum(row) for row in picture.channels[c]) for picture in pictures]


def plain_settings():
    return [setting for setting in some_settings() if setting.mode != 2]


class TotalTest(unittest.TestCase):

    def test_the_example(self):
        self.assertEqual(total(EXAMPLE, 0), (6, 7))

    def test_against_all_members(self):
        for setting in plain_settings():
            for seed in range(9):
                box = some_box(setting, seed, 200)
                pictures = members_of(box)
                for c in range(channel_count(setting)):
                    found = sums_of(pictures, c)
                    told = total(box, c)
                    self.assertIsInstance(told, tuple)
                    self.assertEqual(told, (min(found), max(found)))

    def test_one_coef_at_a_time(self):
        # Stretches with even and odd ends on both sides of 0; of coefs with more cells below the first
        # than below the second, with fewer, and with as many.
        stretches = ((-3, 4), (-4, 3), (-4, 4), (-3, 3), (2, 7), (3, 3), (3, 4), (4, 5), (-6, -5), (-5, -2), (4, 6))
        for setting in plain_settings():
            many = sum(len(row) for line in filled_rows(setting, int) for row in line)
            for number, stretch in itertools.product(range(many), stretches[::1 + many // 12]):
                places = itertools.count()
                box = Box(setting, filled_rows(setting, lambda: stretch if next(places) == number else (1, 1)))
                pictures = members_of(box)
                for c in range(channel_count(setting)):
                    found = sums_of(pictures, c)
                    self.assertEqual(total(box, c), (min(found), max(found)))

    def test_uneven_numbers_of_cells_below(self):
        # Over (1, 4): 1 alone, 2 and 3 a pair, then 1 cell below the first and 2 below the second.
        setting = Setting((1, 4, 0, 1), 0, 2, 0, "XX", 3, (9,), "LBTC")
        for low, high in itertools.combinations_with_replacement(range(-4, 5), 2):
            box = Box(setting, [[[(0, 0)]], [[(low, high)]], [[(0, 0)]]])
            found = [(d + 1) // 2 - 2 * (d // 2) for d in range(low, high + 1)]
            self.assertEqual(total(box, 0), (min(found), max(found)))

    def test_great_numbers(self):
        far = 10 ** 30
        box = Box(TWO_CELLS, [[[(-far, far)]], [[(-far, far)]]])
        self.assertEqual(total(box, 0), (-2 * far, 2 * far + 1))

    def test_coloured_ahead_of_all_else(self):
        for setting in some_settings():
            if setting.mode == 2:
                for c in (0, 1, 2, 3, -1):
                    with self.assertRaises(Coloured):
                        total(some_box(setting, 0), c)

    def test_outside(self):
        for setting in plain_settings():
            for c in (-1, channel_count(setting), 99):
                with self.assertRaises(Outside):
                    total(some_box(setting, 0), c)

    def test_names_of_arguments(self):
        before = box_told(EXAMPLE)
        self.assertEqual(total(c=0, box=EXAMPLE), (6, 7))
        self.assertEqual(box_told(EXAMPLE), before)


if __name__ == "__main__":
    unittest.main()
