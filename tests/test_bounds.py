"""Ends of samples: point [16]."""

import itertools
import unittest

from narrowingbits.bounds import sample, samples, widest
from narrowingbits.boxes import Box
from narrowingbits.errors import Outside
from narrowingbits.settings import Setting

from picture_reference import (box_told, cells_of, channel_count, changed, coded_picture, filled_rows, members_of,
                               some_box, some_settings)

TWO_CELLS = Setting((0, 2, 0, 1), 0, 1, 0, "X", 3, (9,), "LBTC")
EXAMPLE = Box(TWO_CELLS, [[[(3, 3)]], [[(-7, 7)]]])


def ends_of_members(box):
    """For each channel rows of the ends of its samples, of all members one by one."""
    pictures = [picture.channels for picture in members_of(box)]
    found = []
    for c, rows in enumerate(pictures[0]):
        found.append([])
        for y, row in enumerate(rows):
            worths = [[channels[c][y][x] for channels in pictures] for x in range(len(row))]
            found[c].append([(min(numbers), max(numbers)) for numbers in worths])
    return found


def cells_with_channels(setting):
    return itertools.product(range(channel_count(setting)), cells_of(setting.rect))


class SamplesTest(unittest.TestCase):

    def test_the_example(self):
        self.assertEqual(samples(EXAMPLE), [[[(0, 7), (0, 7)]]])
        self.assertEqual(sample(EXAMPLE, 0, 0, 0), (0, 7))
        self.assertEqual(sample(EXAMPLE, 0, 1, 0), (0, 7))
        self.assertEqual(widest(EXAMPLE), 7)

    def test_against_all_members(self):
        for setting in some_settings():
            for seed in range(5):
                box = some_box(setting, seed, 200)
                self.assert_told(box, ends_of_members(box))

    def assert_told(self, box, expected):
        self.assertEqual(samples(box), expected)
        x0, _, y0, _ = box.setting.rect
        for c, (x, y) in cells_with_channels(box.setting):
            told = sample(box, c, x, y)
            self.assertIsInstance(told, tuple)
            self.assertEqual(told, expected[c][y - y0][x - x0])
        widths = [high - low for rows in expected for row in rows for low, high in row]
        self.assertEqual(widest(box), max(widths))

    def test_wide_stretches_of_one_coef_at_a_time(self):
        for setting in some_settings():
            many = sum(len(row) for line in filled_rows(setting, int) for row in line)
            for number in range(many):
                places = itertools.count()
                box = Box(setting, filled_rows(setting, lambda: (-5, 4) if next(places) == number else (2, 2)))
                self.assert_told(box, ends_of_members(box))

    def test_red_green_and_blue(self):
        setting = Setting((0, 1, 0, 1), 2, 0, 0, "", 3, (9,), "LBTC")
        # By the words of [7]: g = Y + (U + 1) // 2, t = Y - U // 2, r = t + (V + 1) // 2, b = t - V // 2.
        for y, u, v in itertools.product(((0, 0), (-1, 2)), ((0, 0), (-3, 1)), ((0, 0), (2, 5))):
            box = Box(setting, [[[y]], [[u]], [[v]]])
            t = (y[0] - u[1] // 2, y[1] - u[0] // 2)
            expected = [(t[0] + (v[0] + 1) // 2, t[1] + (v[1] + 1) // 2),
                        (y[0] + (u[0] + 1) // 2, y[1] + (u[1] + 1) // 2),
                        (t[0] - v[1] // 2, t[1] - v[0] // 2)]
            self.assertEqual([sample(box, c, 0, 0) for c in range(3)], expected)
            self.assertEqual(samples(box), [[[ends]] for ends in expected])

    def test_great_numbers(self):
        far = 10 ** 30
        box = Box(TWO_CELLS, [[[(-far, far)]], [[(1, far)]]])
        self.assertEqual(samples(box), [[[(-far + 1, far + far // 2), (-far - far // 2, far)]]])
        self.assertEqual(widest(box), 2 * far + far // 2)

    def test_one_picture(self):
        for number, setting in enumerate(some_settings()):
            picture = coded_picture(setting, number)
            from_picture = some_box(setting, number, 1)
            self.assertEqual(widest(from_picture), 0)
            only = members_of(from_picture)[0]
            self.assertEqual(samples(from_picture), [[[(n, n) for n in row] for row in rows] for rows in only.channels])
            self.assertEqual(picture.rect, setting.rect)

    def test_large_sides(self):
        for mode in (1, 2):
            setting = Setting((-5, 27, 3, 35), mode, 4, 5, "XYXYXYXY", 3, (9,), "LBTC")
            box = Box(setting, filled_rows(setting, lambda: (-1, 1)))
            for c, (x, y) in ((0, (-5, 3)), (1, (26, 34)), (2, (0, 17))):
                self.assertEqual(sample(box, c, x, y), samples(box)[c][y - 3][x + 5])

    def test_outside(self):
        for setting in some_settings():
            box = some_box(setting, 0)
            x0, x1, y0, y1 = setting.rect
            for c in (-1, channel_count(setting), 99):
                for x, y in ((x0, y0), (x1, y0), (x0 - 1, y1)):
                    with self.assertRaises(Outside):
                        sample(box, c, x, y)
            for x, y in ((x0 - 1, y0), (x1, y0), (x0, y0 - 1), (x0, y1), (x1, y1), (10 ** 20, y0), (x0, -10 ** 20)):
                with self.assertRaises(Outside):
                    sample(box, 0, x, y)

    def test_names_of_arguments_and_new_at_each_call(self):
        self.assertEqual(sample(y=0, x=1, c=0, box=EXAMPLE), (0, 7))
        self.assertEqual(widest(box=EXAMPLE), 7)
        before = box_told(EXAMPLE)
        rows = samples(box=EXAMPLE)
        rows[0][0][0] = (1, 1)
        rows[0].append([])
        rows.append([])
        self.assertEqual(samples(EXAMPLE), [[[(0, 7), (0, 7)]]])
        self.assertEqual(box_told(EXAMPLE), before)

    def test_what_does_not_matter(self):
        for setting in some_settings():
            box = some_box(setting, 4)
            other = Box(changed(setting, planes=1, layers=(1, 2), order="BCLT"), box.stretches())
            self.assertEqual(samples(other), samples(box))


if __name__ == "__main__":
    unittest.main()
