"""Differences of samples: point [17]."""

import itertools
import unittest

from narrowingbits.bounds import sample
from narrowingbits.boxes import Box
from narrowingbits.errors import Coloured, Outside
from narrowingbits.gaps import gap, surely
from narrowingbits.settings import Setting

from picture_reference import (box_told, cells_of, channel_count, filled_rows, members_of, some_box, some_settings)

TWO_CELLS = Setting((0, 2, 0, 1), 0, 1, 0, "X", 3, (9,), "LBTC")
EXAMPLE = Box(TWO_CELLS, [[[(3, 3)]], [[(-7, 7)]]])


def plain_settings():
    return [setting for setting in some_settings() if setting.mode != 2]


def differences(box, c, p, q, pictures):
    """All differences, of all members one by one."""
    x0, _, y0, _ = box.setting.rect
    return [picture[c][p[1] - y0][p[0] - x0] - picture[c][q[1] - y0][q[0] - x0] for picture in pictures]


class GapTest(unittest.TestCase):

    def test_the_example(self):
        self.assertEqual(gap(EXAMPLE, 0, (0, 0), (1, 0)), (-7, 7))
        self.assertEqual(gap(EXAMPLE, 0, (1, 0), (0, 0)), (-7, 7))
        self.assertIs(surely(EXAMPLE, 0, (0, 0), (1, 0)), False)

    def test_against_all_members(self):
        sure = []
        for setting in plain_settings():
            for seed in range(5):
                box = some_box(setting, seed, 120)
                pictures = [picture.channels for picture in members_of(box)]
                cells = cells_of(setting.rect)
                for c, p, q in itertools.product(range(channel_count(setting)), cells[::1 + seed], cells[::1 + seed % 2]):
                    found = differences(box, c, p, q, pictures)
                    told = gap(box, c, p, q)
                    self.assertIsInstance(told, tuple)
                    self.assertEqual(told, (min(found), max(found)), (setting.rect, setting.word, p, q))
                    self.assertIs(surely(box, c, p, q), min(found) > 0)
                    sure.append(min(found) > 0)
        self.assertTrue(100 < sure.count(True) < len(sure) - 100)

    def test_one_cell(self):
        for setting in plain_settings():
            box = Box(setting, filled_rows(setting, lambda: (-9, 5)))
            for p in cells_of(setting.rect):
                self.assertEqual(gap(box, 0, p, p), (0, 0))
                self.assertIs(surely(box, 0, p, p), False)

    def test_cells_of_other_tiles_and_of_other_cells_of_band_0(self):
        setting = Setting((0, 8, 0, 1), 0, 2, 0, "X", 3, (9,), "LBTC")
        numbers = itertools.count(1)
        box = Box(setting, filled_rows(setting, lambda: (next(numbers), 3 * next(numbers))))
        # Pairs of cells share a cell of band 0 only within (0, 1), (2, 3), (4, 5), (6, 7).
        for p, q in itertools.product(range(8), repeat=2):
            if p // 2 != q // 2:
                low, high = sample(box, 0, p, 0)
                other_low, other_high = sample(box, 0, q, 0)
                self.assertEqual(gap(box, 0, (p, 0), (q, 0)), (low - other_high, high - other_low))

    def test_what_is_shared_does_not_matter(self):
        # Two steps of x over four cells: bands 0 (the mean), 1 (left and right), 2 (within the pairs).
        setting = Setting((0, 4, 0, 1), 0, 2, 0, "XX", 3, (9,), "LBTC")
        box = Box(setting, [[[(-99, 99)]], [[(-50, 50)]], [[(2, 3), (-7, -5)]]])
        self.assertEqual(gap(box, 0, (0, 0), (1, 0)), (2, 3))
        self.assertEqual(gap(box, 0, (1, 0), (0, 0)), (-3, -2))
        self.assertEqual(gap(box, 0, (2, 0), (3, 0)), (-7, -5))
        # d, and (e + 1) // 2 of (2, 3), and the opposite of -(e // 2) of (-7, -5).
        self.assertEqual(gap(box, 0, (0, 0), (3, 0)), (-50 + 1 - 4, 50 + 2 - 3))

    def test_where_a_way_is_alone(self):
        setting = Setting((1, 4, 0, 1), 0, 2, 0, "XX", 3, (9,), "LBTC")
        # 1 is alone in the first step; 2 and 3 are a pair; the low cells 0 and 1 are a pair.
        box = Box(setting, [[[(5, 9)]], [[(-3, 4)]], [[(1, 6)]]])
        self.assertEqual(gap(box, 0, (1, 0), (2, 0)), (-3 - 3, 4 - 1))
        self.assertEqual(gap(box, 0, (3, 0), (1, 0)), (-4 - 3, 3 - 0))
        self.assertEqual(gap(box, 0, (2, 0), (3, 0)), (1, 6))

    def test_coloured_ahead_of_all_else(self):
        for setting in some_settings():
            if setting.mode == 2:
                box = some_box(setting, 0)
                p = cells_of(setting.rect)[0]
                for call, c, one, other in itertools.product((gap, surely), (0, -1, 3), (p, (99, 99)), (p, (99, 99))):
                    with self.assertRaises(Coloured):
                        call(box, c, one, other)

    def test_outside(self):
        for setting in plain_settings():
            box = some_box(setting, 0)
            x0, x1, y0, y1 = setting.rect
            p = (x0, y0)
            for call in (gap, surely):
                for c in (-1, channel_count(setting), 77):
                    with self.assertRaises(Outside):
                        call(box, c, p, p)
                for q in ((x0 - 1, y0), (x1, y0), (x0, y0 - 1), (x0, y1), (10 ** 20, y0)):
                    for one, other in ((p, q), (q, p), (q, q)):
                        with self.assertRaises(Outside):
                            call(box, 0, one, other)

    def test_names_of_arguments(self):
        before = box_told(EXAMPLE)
        self.assertEqual(gap(q=(1, 0), p=(0, 0), c=0, box=EXAMPLE), (-7, 7))
        self.assertIs(surely(q=(1, 0), p=(0, 0), c=0, box=EXAMPLE), False)
        self.assertEqual(box_told(EXAMPLE), before)

    def test_surely_at_its_end(self):
        for low, expected in ((1, True), (0, False), (-1, False)):
            box = Box(TWO_CELLS, [[[(3, 3)]], [[(low, 7)]]])
            self.assertIs(surely(box, 0, (0, 0), (1, 0)), expected)


if __name__ == "__main__":
    unittest.main()
