"""Colours: the end of point [7]."""

import itertools
import unittest

from narrowingbits.colours import coloured, uncoloured
from narrowingbits.errors import BadGrid

UNLIKE = (
    [[[1]], [[1]], []],
    [[[1]], [[1]], [[]]],
    [[[1]], [[1, 2]], [[1]]],
    [[[1, 2]], [[1]], [[1]]],
    [[[1]], [[1]], [[1, 2]]],
    [[[1], [2]], [[1], [2]], [[1]]],
    [[[1]], [[1], [2]], [[1]]],
    [[[1], [2]], [[1]], [[1]]],
    [[[1, 2]], [[1], [2]], [[1, 2]]],
    [[[1, 2], [3, 4]], [[1, 2], [3, 4]], [[1, 2], [3]]],
    [[], [], [[]]],
)


class ColoursTest(unittest.TestCase):

    def test_the_example(self):
        self.assertEqual(coloured([[[255]], [[0]], [[0]]]), [[[63]], [[-127]], [[255]]])
        self.assertEqual(uncoloured([[[63]], [[-127]], [[255]]]), [[[255]], [[0]], [[0]]])

    def test_cell_by_cell(self):
        worths = (-3, -2, -1, 0, 1, 2, 3, 254, 255, 10 ** 30, -10 ** 30 - 1)
        for r, g, b in itertools.product(worths, repeat=3):
            t, v = (r + b) // 2, r - b
            y, u = (g + t) // 2, g - t
            self.assertEqual(coloured([[[r]], [[g]], [[b]]]), [[[y]], [[u]], [[v]]])
            self.assertEqual(uncoloured([[[y]], [[u]], [[v]]]), [[[r]], [[g]], [[b]]])

    def test_both_ways(self):
        for y, u, v in itertools.product(range(-5, 6), repeat=3):
            told = uncoloured([[[y]], [[u]], [[v]]])
            self.assertEqual(coloured(told), [[[y]], [[u]], [[v]]])

    def test_rows(self):
        channels = [[[1, 255, 3], [4, 5, 6]], [[7, 0, 9], [10, 11, 12]], [[13, 0, 15], [0, 0, -4]]]
        told = coloured(channels)
        for y, x in itertools.product(range(2), range(3)):
            one = [[[rows[y][x]]] for rows in channels]
            self.assertEqual(coloured(one), [[[rows[y][x]]] for rows in told])
        self.assertEqual([[len(row) for row in rows] for rows in told], [[3, 3]] * 3)
        self.assertEqual(uncoloured(told), channels)

    def test_a_list_or_a_tuple(self):
        channels = [[[1, 2]], [[3, 4]], [[5, 6]]]
        self.assertEqual(coloured(tuple(channels)), coloured(channels))
        self.assertEqual(uncoloured(channels=tuple(channels)), uncoloured(channels))
        self.assertIsInstance(coloured(tuple(channels)), list)

    def test_without_cells(self):
        for change in (coloured, uncoloured):
            self.assertEqual(change([[], [], []]), [[], [], []])

    def test_other_numbers_of_channels(self):
        for change in (coloured, uncoloured):
            for many in (0, 1, 2, 4, 5):
                with self.assertRaises(BadGrid):
                    change([[[1]]] * many)
                with self.assertRaises(BadGrid):
                    change(([[1]],) * many)

    def test_channels_of_unlike_form(self):
        for change in (coloured, uncoloured):
            for channels in UNLIKE:
                with self.assertRaises(BadGrid, msg=channels):
                    change(channels)

    def test_nothing_handed_in_is_changed_and_what_is_told_is_new(self):
        channels = [[[1, 2]], [[3, 4]], [[5, 6]]]
        for change in (coloured, uncoloured):
            before = change(channels)
            change(channels)[0][0].append(5)
            change(channels)[1].append([])
            self.assertEqual(channels, [[[1, 2]], [[3, 4]], [[5, 6]]])
            self.assertEqual(change(channels), before)


if __name__ == "__main__":
    unittest.main()
