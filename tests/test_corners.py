"""Members that reach an end: point [17]."""

import itertools
import unittest

from narrowingbits.bounds import sample
from narrowingbits.boxes import Box
from narrowingbits.coefs import coefs_of
from narrowingbits.corners import corner, gap_corner, total_corner
from narrowingbits.errors import Coloured, Outside
from narrowingbits.gaps import gap
from narrowingbits.pictures import Picture
from narrowingbits.settings import Setting
from narrowingbits.totals import total

from picture_reference import (below_of, box_told, cells_of, channel_count, filled_rows, nearest_nought, some_box,
                               some_settings, stretch_table, table_of)

TWO_CELLS = Setting((0, 2, 0, 1), 0, 1, 0, "X", 3, (9,), "LBTC")
EXAMPLE = Box(TWO_CELLS, [[[(3, 3)]], [[(-7, 7)]]])
# By the words of point [16]: whether the number of a line channel is up or down for red, green, blue.
COLOURS = ({0: True, 1: False, 2: True}, {0: True, 1: True}, {0: True, 1: False, 2: False})


def boxes(modes):
    """Small boxes, and boxes of stretches with one or two numbers, whose terms often cannot move."""
    for setting in some_settings():
        if setting.mode in modes:
            for seed in range(2):
                yield some_box(setting, seed)
            stretches = itertools.cycle(((1, 2), (2, 3), (-2, -1), (-3, -2), (0, 1), (-1, 0), (4, 4), (-5, 9)))
            yield Box(setting, filled_rows(setting, lambda: next(stretches)))


def end_of(stretch, is_high):
    return stretch[1] if is_high else stretch[0]


class CornersTest(unittest.TestCase):

    def assert_coefs(self, picture, box, chosen):
        """That the chosen coefs are as they are said to be, and all others nearest 0."""
        self.assertIsInstance(picture, Picture)
        self.assertIn(picture, box)
        found = table_of(box.setting, coefs_of(picture, box.setting))
        for place, stretch in stretch_table(box).items():
            self.assertEqual(found[place], chosen.get(place, nearest_nought(stretch)), place)


class CornerTest(CornersTest):

    def test_the_example(self):
        told = [corner(EXAMPLE, 0, x, 0, greatest).channels for x in (0, 1) for greatest in (True, False)]
        self.assertEqual(told, [[[[7, 0]]], [[[0, 7]]], [[[0, 7]]], [[[7, 0]]]])

    def test_all_cells(self):
        for box in boxes((0, 1, 2)):
            x0, _, y0, _ = box.setting.rect
            for c, (x, y) in itertools.product(range(channel_count(box.setting)), cells_of(box.setting.rect)):
                for greatest in (True, False):
                    picture = corner(box, c, x, y, greatest)
                    self.assertEqual(picture.channels[c][y - y0][x - x0], sample(box, c, x, y)[greatest])
                    self.assert_coefs(picture, box, self.chosen(box, c, x, y, greatest))

    def chosen(self, box, c, x, y, greatest):
        ups = COLOURS[c] if box.setting.mode == 2 else {c: True}
        stretches = stretch_table(box)
        found = {}
        for place, (firsts, seconds) in below_of(box.setting).items():
            if (x, y) in firsts | seconds:
                for channel, is_up in ups.items():
                    stretch = stretches[(channel,) + place]
                    found[(channel,) + place] = end_of(stretch, (is_up == ((x, y) in firsts)) == greatest)
        return found

    def test_outside(self):
        for setting in some_settings():
            box = some_box(setting, 0)
            x0, x1, y0, y1 = setting.rect
            for c, x, y in ((-1, x0, y0), (channel_count(setting), x0, y0), (0, x0 - 1, y0), (0, x1, y0),
                            (0, x0, y0 - 1), (0, x0, y1), (9, x1, y1)):
                for greatest in (True, False):
                    with self.assertRaises(Outside):
                        corner(box, c, x, y, greatest)


class GapCornerTest(CornersTest):

    def test_the_example(self):
        told = [gap_corner(EXAMPLE, 0, (0, 0), (1, 0), greatest).channels for greatest in (True, False)]
        self.assertEqual(told, [[[[7, 0]]], [[[0, 7]]]])

    def test_many_pairs_of_cells(self):
        for box in boxes((0, 1)):
            x0, _, y0, _ = box.setting.rect
            cells = cells_of(box.setting.rect)
            for c, p, q in itertools.product(range(channel_count(box.setting)), cells[::3], cells):
                for greatest in (True, False):
                    picture = gap_corner(box, c, p, q, greatest)
                    rows = picture.channels[c]
                    difference = rows[p[1] - y0][p[0] - x0] - rows[q[1] - y0][q[0] - x0]
                    self.assertEqual(difference, gap(box, c, p, q)[greatest])
                    self.assert_coefs(picture, box, self.chosen(box, c, p, q, greatest))

    def chosen(self, box, c, p, q, greatest):
        stretches = stretch_table(box)
        found = {}
        for place, (firsts, seconds) in below_of(box.setting).items():
            # Below one side of the pair stand both cells, or neither: then nothing is left of the coef.
            if (p in firsts) != (q in firsts) or (p in seconds) != (q in seconds):
                never_falls = p in firsts or q in seconds
                found[(c,) + place] = end_of(stretches[(c,) + place], never_falls == greatest)
        return found

    def test_one_cell(self):
        for box in boxes((0, 1)):
            for p in cells_of(box.setting.rect):
                for greatest in (True, False):
                    self.assertEqual(gap_corner(box, 0, p, p, greatest).channels, box.nearest().channels)

    def test_errors(self):
        for setting in some_settings():
            box = some_box(setting, 0)
            p = cells_of(setting.rect)[0]
            for c, one, other in ((-1, p, p), (channel_count(setting), p, p), (0, (99, 99), p), (0, p, (99, 99))):
                with self.assertRaises(Coloured if setting.mode == 2 else Outside):
                    gap_corner(box, c, one, other, True)
            if setting.mode == 2:
                with self.assertRaises(Coloured):
                    gap_corner(box, 0, p, p, False)


class TotalCornerTest(CornersTest):

    def test_the_example(self):
        told = [total_corner(EXAMPLE, 0, greatest).channels for greatest in (True, False)]
        # Of -7, -6, 6, 7 both odd ones add 1; -7 is the least of them, and -6 the least of the others.
        self.assertEqual(told, [[[[0, 7]]], [[[0, 6]]]])

    def test_all_channels(self):
        for box in boxes((0, 1)):
            for c, greatest in itertools.product(range(channel_count(box.setting)), (True, False)):
                picture = total_corner(box, c, greatest)
                self.assertEqual(sum(sum(row) for row in picture.channels[c]), total(box, c)[greatest])
                self.assert_coefs(picture, box, self.chosen(box, c, greatest))

    def chosen(self, box, c, greatest):
        stretches = stretch_table(box)
        found = {}
        for place, (firsts, seconds) in below_of(box.setting).items():
            low, high = stretches[(c,) + place]
            if place[2] == 0:
                found[(c,) + place] = end_of((low, high), greatest)
                continue
            best = None
            for d in sorted({low, low + 1, high - 1, high}):
                if low <= d <= high:
                    worth = len(firsts) * ((d + 1) // 2) - len(seconds) * (d // 2)
                    worth = worth if greatest else -worth
                    if best is None or worth > best:
                        best = worth
                        found[(c,) + place] = d
        return found

    def test_errors(self):
        for setting in some_settings():
            box = some_box(setting, 0)
            for c in (-1, channel_count(setting), 99):
                with self.assertRaises(Coloured if setting.mode == 2 else Outside):
                    total_corner(box, c, True)
            if setting.mode == 2:
                with self.assertRaises(Coloured):
                    total_corner(box, 0, True)


class NamesTest(unittest.TestCase):

    def test_names_of_arguments(self):
        before = box_told(EXAMPLE)
        self.assertEqual(corner(greatest=True, y=0, x=0, c=0, box=EXAMPLE).channels, [[[7, 0]]])
        told = gap_corner(greatest=True, q=(1, 0), p=(0, 0), c=0, box=EXAMPLE)
        self.assertEqual(told.channels, [[[7, 0]]])
        self.assertEqual(total_corner(greatest=True, c=0, box=EXAMPLE).channels, [[[0, 7]]])
        self.assertEqual(box_told(EXAMPLE), before)


if __name__ == "__main__":
    unittest.main()
