"""Coefs: points [11] and [12]."""

import itertools
import unittest

from narrowingbits.coefs import coefs_of, picture_of
from narrowingbits.errors import BadGrid, Unlike
from narrowingbits.orders import lines_of
from narrowingbits.pictures import Picture
from narrowingbits.settings import Setting

from picture_reference import changed, filled_rows, some_picture, some_settings, told


def setting_of(rect, mode=0, tx=1, ty=0, word="X"):
    return Setting(rect, mode, tx, ty, word, 3, (9,), "LBTC")


def halved_by_the_point(cells, letter):
    """The low and the high cells of a step, by the words of point [7]."""
    low, high = {}, {}
    for x, y in cells:
        cell = (x // 2, y) if letter == "X" else (x, y // 2)
        step = (1, 0) if letter == "X" else (0, 1)
        first = (2 * cell[0], y) if letter == "X" else (x, 2 * cell[1])
        second = (first[0] + step[0], first[1] + step[1])
        if first in cells and second in cells:
            d = cells[first] - cells[second]
            low[cell] = cells[second] + d // 2
            high[cell] = d
        else:
            low[cell] = cells[x, y]
    return low, high


def line_channels(picture, mode):
    """A dict from the cells to the number for each line channel."""
    x0, _, y0, _ = picture.rect
    channels = [{(x, y): number for y, row in enumerate(rows, start=y0) for x, number in enumerate(row, start=x0)}
                for rows in picture.channels]
    if mode != 2:
        return channels
    found = [{}, {}, {}]
    for cell in channels[0]:
        r, g, b = [channel[cell] for channel in channels]
        t = b + (r - b) // 2
        found[0][cell], found[1][cell], found[2][cell] = t + (g - t) // 2, g - t, r - b
    return found


def coefs_by_the_point(picture, setting):
    """The rows of all lines, by the words of points [7] and [11]."""
    found = []
    for channel in line_channels(picture, setting.mode):
        tiles = {}
        for (x, y), number in channel.items():
            tiles.setdefault((y // 2 ** setting.ty, x // 2 ** setting.tx), {})[x, y] = number
        for tile in sorted(tiles):
            low = tiles[tile]
            highs = []
            for letter in setting.word:
                low, high = halved_by_the_point(low, letter)
                highs.insert(0, high)
            for band in [low] + highs:
                ys = sorted({y for _, y in band})
                found.append([[band[x, y] for x, _ in sorted(cell for cell in band if cell[1] == y)] for y in ys])
    return found


class ExamplesTest(unittest.TestCase):

    def test_two_cells(self):
        setting = setting_of((0, 2, 0, 1))
        picture = Picture((0, 2, 0, 1), [[[5, 2]]])
        self.assertEqual(coefs_of(picture, setting), [[[3]], [[3]]])
        self.assertEqual(told(picture_of([[[3]], [[3]]], setting)), told(picture))

    def test_two_tiles(self):
        setting = setting_of((-1, 2, 0, 1))
        picture = Picture((-1, 2, 0, 1), [[[7, 5, 2]]])
        self.assertEqual(coefs_of(picture, setting), [[[7]], [], [[3]], [[3]]])
        self.assertEqual(told(picture_of([[[7]], [], [[3]], [[3]]], setting)), told(picture))

    def test_red(self):
        setting = setting_of((0, 1, 0, 1), mode=2, tx=0, word="")
        picture = Picture((0, 1, 0, 1), [[[255]], [[0]], [[0]]])
        self.assertEqual(coefs_of(picture, setting), [[[63]], [[-127]], [[255]]])
        self.assertEqual(coefs_of(picture, changed(setting, mode=1)), [[[255]], [[0]], [[0]]])

    def test_names_of_arguments(self):
        setting = setting_of((0, 2, 0, 1))
        rows = coefs_of(setting=setting, picture=Picture((0, 2, 0, 1), [[[5, 2]]]))
        self.assertEqual(picture_of(setting=setting, rows=rows).channels, [[[5, 2]]])


class CoefsTest(unittest.TestCase):

    def test_by_the_words_of_the_points(self):
        for setting in some_settings():
            for seed in range(4):
                picture = some_picture(setting, seed, most=300)
                self.assertEqual(coefs_of(picture, setting), coefs_by_the_point(picture, setting))

    def test_each_undoes_the_other(self):
        numbers = itertools.cycle((5, -3, 0, 10 ** 30, -1, 2, -10 ** 25 - 1, 8, -7))
        for setting in some_settings():
            for most in (1, 9, 10 ** 40):
                picture = some_picture(setting, most, most)
                self.assertEqual(told(picture_of(coefs_of(picture, setting), setting)), told(picture))
            rows = filled_rows(setting, lambda: next(numbers))
            picture = picture_of(rows, setting)
            self.assertIsInstance(picture, Picture)
            self.assertEqual(coefs_of(picture, setting), rows)

    def test_large_sides(self):
        for mode in (0, 2):
            setting = setting_of((-5, 27, 3, 35), mode=mode, tx=4, ty=3, word="XYXYXYX")
            picture = some_picture(setting, 1, 255)
            rows = coefs_of(picture, setting)
            self.assertEqual(len(rows), len(list(lines_of(setting))))
            self.assertEqual(told(picture_of(rows, setting)), told(picture))

    def test_planes_layers_and_order_do_not_matter(self):
        for setting in some_settings():
            picture = some_picture(setting, 3, 10 ** 9)
            other = changed(setting, planes=1, layers=(1, 1, 1), order="BCLT")
            self.assertEqual(coefs_of(picture, other), coefs_of(picture, setting))

    def test_pictures_that_do_not_fit(self):
        setting = setting_of((0, 2, 0, 1))
        for rect, rows in (((1, 3, 0, 1), [[5, 2]]), ((0, 2, 1, 2), [[5, 2]]), ((0, 1, 0, 2), [[5], [2]]),
                           ((0, 3, 0, 1), [[5, 2, 1]])):
            with self.assertRaises(Unlike):
                coefs_of(Picture(rect, [rows]), setting)
        for mode, many in ((0, 3), (1, 1), (2, 1)):
            with self.assertRaises(Unlike):
                coefs_of(Picture((0, 2, 0, 1), [[[5, 2]]] * many), changed(setting, mode=mode))

    def test_new_at_each_call(self):
        setting = setting_of((-1, 2, 0, 1))
        picture = Picture((-1, 2, 0, 1), [[[7, 5, 2]]])
        rows = coefs_of(picture, setting)
        rows[0][0][0] = 99
        rows[1].append([1])
        rows.append([])
        self.assertEqual(coefs_of(picture, setting), [[[7]], [], [[3]], [[3]]])
        self.assertEqual(picture.channels, [[[7, 5, 2]]])


class PictureOfTest(unittest.TestCase):

    def refused(self, rows, setting):
        with self.assertRaises(BadGrid, msg=rows):
            picture_of(rows, setting)

    def test_too_few_and_too_many_lines(self):
        setting = setting_of((-1, 2, 0, 1))
        rows = [[[7]], [], [[3]], [[3]]]
        for wrong in ([], rows[:1], rows[:3], rows + [[]], rows + [[[3]]], rows + rows):
            self.refused(wrong, setting)
        for mode in (1, 2):
            self.refused(rows, changed(setting, mode=mode))
            self.refused(rows * 2, changed(setting, mode=mode))
            self.assertEqual(picture_of(rows * 3, changed(setting, mode=mode)).rect, setting.rect)

    def test_rows_that_do_not_fit(self):
        setting = setting_of((-1, 2, 0, 1))
        for number, fit in enumerate([[[7]], [], [[3]], [[3]]]):
            for line in ([], [[]], [[7]], [[7, 8]], [[7], [8]], [[], []], [[7], []]):
                rows = [[[7]], [], [[3]], [[3]]]
                rows[number] = line
                if line == fit or line == [[7]] and fit == [[3]]:
                    self.assertIsInstance(picture_of(rows, setting), Picture)
                else:
                    self.refused(rows, setting)

    def test_what_is_handed_in_may_be_changed(self):
        setting = setting_of((0, 2, 0, 1))
        rows = [[[3]], [[3]]]
        picture = picture_of(rows, setting)
        self.assertEqual(rows, [[[3]], [[3]]])
        rows[0][0][0] = 9
        self.assertEqual(picture.channels, [[[5, 2]]])
        self.assertEqual(picture_of([[[3]], [[3]]], setting).channels, [[[5, 2]]])


if __name__ == "__main__":
    unittest.main()
