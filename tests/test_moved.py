"""The deeds on pictures: points [20], [22] and [24]."""

import itertools
import unittest

from narrowingbits.errors import Outside, Unlike
from narrowingbits.moved import mirrored, shrunk, swapped, taken
from narrowingbits.moving import shrink, take
from narrowingbits.orders import tile_rect, tiles_of
from narrowingbits.pictures import Picture
from narrowingbits.reading import box_of
from narrowingbits.settings import Setting
from narrowingbits.streams import code
from narrowingbits.turning import mirror, swap

from deed_reference import low_picture, part_of, settings_in_many_orders, turned_picture
from picture_reference import (changed, channel_count, coded_picture, some_picture, some_settings, strange_pictures,
                               told)

COLOURS = Setting((0, 2, 0, 1), 2, 1, 0, "X", 3, (9,), "LBTC")
GREAT = 10 ** 40


def of_stream(stream):
    return told(box_of(stream).nearest())


class ShrunkTest(unittest.TestCase):

    def test_the_example_in_mode_2(self):
        picture = Picture((0, 2, 0, 1), [[[1, 0]], [[0, 0]], [[1, 0]]])
        result = shrunk(picture, COLOURS, 1)
        self.assertIsInstance(result, Picture)
        self.assertEqual(told(result), ((0, 1, 0, 1), [[[1]], [[0]], [[1]]]))
        self.assertEqual(told(shrunk(picture, changed(COLOURS, mode=1), 1)), ((0, 1, 0, 1), [[[0]], [[0]], [[0]]]))

    def test_the_example_of_shrink(self):
        setting = changed(COLOURS, mode=0)
        self.assertEqual(told(shrunk(Picture((0, 2, 0, 1), [[[5, 2]]]), setting, 1)), ((0, 1, 0, 1), [[[3]]]))
        self.assertEqual(told(shrunk(Picture((0, 2, 0, 1), [[[5, 2]]]), setting, 0)), ((0, 2, 0, 1), [[[5, 2]]]))

    def test_what_shrink_makes_of_streams(self):
        for number, setting in enumerate(settings_in_many_orders(12)):
            picture = coded_picture(setting, number)
            stream = code(picture, setting)
            for n in range(len(setting.word) + 1):
                self.assertEqual(told(shrunk(picture, setting, n)), of_stream(shrink(stream, n)))

    def test_numbers_of_any_size(self):
        for number, setting in enumerate(some_settings()):
            picture = some_picture(setting, number, GREAT)
            for n in range(len(setting.word) + 1):
                self.assertEqual(told(shrunk(n=n, setting=setting, picture=picture)),
                                 told(low_picture(picture, setting.mode, setting.word[:n])))

    def test_nothing_else_of_the_setting_counts(self):
        for number, setting in enumerate(some_settings()):
            picture = some_picture(setting, number, 99)
            for fields in ({"tx": 5, "ty": 5}, {"tx": setting.word.count("X"), "ty": setting.word.count("Y")},
                           {"planes": 1, "layers": (3,)}, {"order": "TLCB"}):
                for n in range(len(setting.word) + 1):
                    self.assertEqual(told(shrunk(picture, changed(setting, **fields), n)),
                                     told(shrunk(picture, setting, n)))

    def test_unlike_then_outside(self):
        for setting in some_settings():
            picture = coded_picture(setting, 1)
            for other in strange_pictures(picture):
                for n in (0, -1, 99):
                    with self.assertRaises(Unlike):
                        shrunk(other, setting, n)
            for n in (-1, len(setting.word) + 1, 99, -10 ** 20):
                with self.assertRaises(Outside):
                    shrunk(picture, setting, n)


class TurnedTest(unittest.TestCase):

    def test_what_mirror_and_swap_make_of_streams(self):
        for number, setting in enumerate(settings_in_many_orders(12)):
            picture = coded_picture(setting, number)
            stream = code(picture, setting)
            for result, expected in ((mirrored(picture), mirror(stream)), (swapped(picture), swap(stream))):
                self.assertIsInstance(result, Picture)
                self.assertEqual(told(result), of_stream(expected))

    def test_cell_by_cell(self):
        for number, setting in enumerate(some_settings()):
            picture = some_picture(setting, number, GREAT)
            self.assertEqual(told(mirrored(picture=picture)), told(turned_picture(picture, "M")))
            self.assertEqual(told(swapped(picture=picture)), told(turned_picture(picture, "S")))
            self.assertEqual(told(mirrored(swapped(mirrored(picture)))), told(turned_picture(picture, "MSM")))
            for deed in (mirrored, swapped):
                self.assertEqual(told(deed(deed(picture))), told(picture))

    def test_any_rims(self):
        for x0, y0 in ((GREAT, -GREAT), (-5, 7), (0, 0), (-GREAT - 3, 2)):
            picture = Picture((x0, x0 + 3, y0, y0 + 2), [[[1, 2, 3], [4, 5, 6]]])
            self.assertEqual(told(mirrored(picture)), ((-x0 - 3, -x0, y0, y0 + 2), [[[3, 2, 1], [6, 5, 4]]]))
            self.assertEqual(told(swapped(picture)), ((y0, y0 + 2, x0, x0 + 3), [[[1, 4], [2, 5], [3, 6]]]))


class TakenTest(unittest.TestCase):

    def spans(self, setting):
        (j, i), (last_j, last_i) = tiles_of(setting)[0], tiles_of(setting)[-1]
        for j0, j1 in itertools.combinations(range(j, last_j + 2), 2):
            for i0, i1 in itertools.combinations(range(i, last_i + 2), 2):
                yield j0, j1, i0, i1

    def test_what_take_makes_of_streams(self):
        for number, setting in enumerate(settings_in_many_orders(12)):
            picture = coded_picture(setting, number)
            stream = code(picture, setting)
            for span in itertools.islice(self.spans(setting), 0, None, 3):
                result = taken(picture, setting, *span)
                self.assertIsInstance(result, Picture)
                self.assertEqual(told(result), of_stream(take(stream, *span)))

    def test_numbers_of_any_size(self):
        for number, setting in enumerate(some_settings()):
            picture = some_picture(setting, number, GREAT)
            for j0, j1, i0, i1 in self.spans(setting):
                first, last = tile_rect(setting, j0, i0), tile_rect(setting, j1 - 1, i1 - 1)
                expected = part_of(picture, (first[0], last[1], first[2], last[3]))
                self.assertEqual(told(taken(picture=picture, setting=setting, j0=j0, j1=j1, i0=i0, i1=i1)),
                                 told(expected))

    def test_unlike_then_outside(self):
        for setting in some_settings():
            picture = coded_picture(setting, 1)
            (j, i), (last_j, last_i) = tiles_of(setting)[0], tiles_of(setting)[-1]
            wrong = ((j - 1, j + 1, i, i + 1), (j, last_j + 2, i, i + 1), (j, j, i, i + 1), (j + 1, j, i, i + 1),
                     (j, j + 1, i, i), (j, j + 1, i - 1, i + 1), (j, j + 1, i, last_i + 2), (j, j + 1, i + 1, i),
                     (last_j + 1, last_j + 1, i, i + 1), (10 ** 20, 10 ** 20 + 1, i, i + 1))
            for span in wrong:
                with self.assertRaises(Outside):
                    taken(picture, setting, *span)
                for other in strange_pictures(picture):
                    with self.assertRaises(Unlike):
                        taken(other, setting, *span)
            for other in strange_pictures(picture):
                with self.assertRaises(Unlike):
                    taken(other, setting, j, last_j + 1, i, last_i + 1)


class NothingChangedTest(unittest.TestCase):

    def test_pictures_that_are_handed_in(self):
        for number, setting in enumerate(some_settings()):
            picture = some_picture(setting, number)
            before = told(picture)
            (j, i), (last_j, last_i) = tiles_of(setting)[0], tiles_of(setting)[-1]
            for deed in (mirrored, swapped, lambda one: shrunk(one, setting, 0),
                         lambda one: taken(one, setting, j, last_j + 1, i, last_i + 1)):
                result = deed(picture)
                self.assertEqual(len(result.channels), channel_count(setting))
                expected = told(deed(picture))
                result.channels[0][0][0] = 77
                self.assertEqual(told(picture), before)
                self.assertEqual((told(result), told(deed(picture))), (expected, expected))


if __name__ == "__main__":
    unittest.main()
