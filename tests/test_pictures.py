"""Pictures: the first sentence of point [12]."""

import unittest

from narrowingbits.errors import BadGrid
from narrowingbits.pictures import Picture


def rows_of(width, height, start=0):
    return [[start + x + 100 * y for x in range(width)] for y in range(height)]


class PictureTest(unittest.TestCase):

    def refused(self, rect, channels):
        with self.assertRaises(BadGrid, msg=(rect, channels)):
            Picture(rect, channels)

    def test_attributes(self):
        picture = Picture((-1, 2, 4, 6), [[[7, 5, 2], [-1, 0, 10 ** 40]]])
        self.assertEqual(picture.rect, (-1, 2, 4, 6))
        self.assertEqual(picture.channels, [[[7, 5, 2], [-1, 0, 10 ** 40]]])
        self.assertIsInstance(picture.rect, tuple)
        self.assertIsInstance(picture.channels, list)
        self.assertIsInstance(picture.channels[0], list)
        self.assertIsInstance(picture.channels[0][0], list)

    def test_three_channels(self):
        channels = [[[1, 2]], [[3, 4]], [[-5, -6]]]
        self.assertEqual(Picture(channels=channels, rect=(0, 2, 0, 1)).channels, channels)

    def test_sides(self):
        for width in (1, 2, 31, 32):
            for height in (1, 2, 31, 32):
                for x0, y0 in ((0, 0), (-40, 7)):
                    rect = (x0, x0 + width, y0, y0 + height)
                    picture = Picture(rect, [rows_of(width, height)])
                    self.assertEqual(picture.rect, rect)
                    self.assertEqual(picture.channels, [rows_of(width, height)])

    def test_other_sides(self):
        for width, height in ((0, 1), (1, 0), (0, 0), (33, 1), (1, 33), (33, 33), (32, 33), (33, 32)):
            self.refused((0, width, 0, height), [rows_of(width, height)])
            self.refused((5, 5 + width, -9, height - 9), [rows_of(width, height)] * 3)
        self.refused((0, 0, 0, 0), [[]])
        self.refused((0, 0, 0, 2), [[]])
        self.refused((2, 0, 0, 1), [[[1, 2]]])
        self.refused((0, 2, 1, 0), [[[1, 2]]])

    def test_other_numbers_of_channels(self):
        for many in (0, 2, 4, 5):
            self.refused((0, 2, 0, 1), [[[1, 2]]] * many)

    def test_rows_that_do_not_fit(self):
        for rows in ([], [[]], [[1]], [[1, 2]], [[1, 2], [3]], [[1], [3, 4]], [[1, 2], [3, 4], [5, 6]],
                     [[1, 2, 3], [4, 5, 6]]):
            self.refused((0, 2, 0, 2), [rows])
            good = [[1, 2], [3, 4]]
            self.refused((0, 2, 0, 2), [rows, good, good])
            self.refused((0, 2, 0, 2), [good, rows, good])
            self.refused((0, 2, 0, 2), [good, good, rows])

    def test_what_was_handed_in_may_be_changed(self):
        channels = [[[1, 2]], [[3, 4]], [[5, 6]]]
        picture = Picture((0, 2, 0, 1), channels)
        channels[0][0][0] = 9
        channels[1].append([7, 7])
        channels.append([])
        self.assertEqual(picture.channels, [[[1, 2]], [[3, 4]], [[5, 6]]])

    def test_what_was_told_may_be_changed(self):
        picture = Picture((0, 2, 0, 1), [[[1, 2]], [[3, 4]], [[5, 6]]])
        picture.channels[0][0][0] = 9
        picture.channels[1].append([7, 7])
        picture.channels.append([])
        self.assertEqual(picture.channels, [[[1, 2]], [[3, 4]], [[5, 6]]])

    def test_nothing_handed_in_is_changed(self):
        channels = [[[1, 2]]]
        Picture((0, 2, 0, 1), channels)
        self.assertEqual(channels, [[[1, 2]]])

    def test_one_list_for_all_channels(self):
        rows = [[1, 2]]
        picture = Picture((0, 2, 0, 1), [rows, rows, rows])
        picture.channels[0][0][0] = 9
        self.assertEqual(picture.channels, [[[1, 2]]] * 3)


if __name__ == "__main__":
    unittest.main()
