"""Stretches, rects, rows: point [1]."""

import unittest

from narrowingbits.errors import BadGrid, Outside
from narrowingbits.grids import Grid


class GridTest(unittest.TestCase):

    def refused(self, rect, rows):
        with self.assertRaises(BadGrid, msg=(rect, rows)):
            Grid(rect, rows)

    def test_rows_that_fit(self):
        grid = Grid((-1, 2, 4, 6), [[7, 5, 2], [-1, 0, 10 ** 40]])
        self.assertEqual(grid.rect, (-1, 2, 4, 6))
        self.assertEqual(grid.rows, [[7, 5, 2], [-1, 0, 10 ** 40]])
        self.assertEqual(Grid(rows=[[1]], rect=(5, 6, 7, 8)).rows, [[1]])

    def test_kinds(self):
        grid = Grid((0, 1, 0, 1), [[3]])
        self.assertIsInstance(grid.rect, tuple)
        self.assertIsInstance(grid.rows, list)
        self.assertIsInstance(grid.rows[0], list)

    def test_sides_are_not_limited(self):
        self.assertEqual(Grid((0, 100, 0, 1), [[0] * 100]).rows, [[0] * 100])
        self.assertEqual(Grid((2 ** 40, 2 ** 40 + 1, 0, 1), [[0]]).rect, (2 ** 40, 2 ** 40 + 1, 0, 1))

    def test_at(self):
        grid = Grid((-1, 2, 4, 6), [[7, 5, 2], [-1, 0, 9]])
        told = [[grid.at(x, y) for x in range(-1, 2)] for y in range(4, 6)]
        self.assertEqual(told, [[7, 5, 2], [-1, 0, 9]])
        self.assertEqual(grid.at(y=5, x=-1), -1)

    def test_cells_beside_the_rect(self):
        grid = Grid((-1, 2, 4, 6), [[7, 5, 2], [-1, 0, 9]])
        for x, y in ((-2, 4), (2, 4), (-2, 5), (2, 5), (0, 3), (0, 6), (-1, 6), (1, 3), (99, 99), (0, 0)):
            with self.assertRaises(Outside):
                grid.at(x, y)

    def test_rects_turned_about(self):
        for rect in ((1, 0, 0, 1), (0, 1, 1, 0), (2, -2, 3, -3), (1, 0, 0, 0), (0, 0, 1, 0)):
            for rows in ([], [[1]], [[]]):
                self.refused(rect, rows)

    def test_rects_without_cells(self):
        for rect in ((0, 0, 0, 0), (3, 3, 0, 2), (0, 2, 5, 5), (-4, -4, -9, 9), (0, 0, 0, 99),
                     (0, 99, 0, 0)):
            grid = Grid(rect, [])
            self.assertEqual((grid.rect, grid.rows), (rect, []))
            for x, y in ((rect[0], rect[2]), (0, 0), (3, 1)):
                with self.assertRaises(Outside):
                    grid.at(x, y)
            for rows in ([[]], [[], []], [[1]], [[], [], [], []]):
                self.refused(rect, rows)

    def test_rows_that_do_not_fit(self):
        for rows in ([], [[1, 2]], [[1, 2], [3, 4], [5, 6]], [[1, 2], [3]], [[1], [2]], [[1, 2], [3, 4, 5]],
                     [[1, 2, 3], [4, 5, 6]], [[], []], [[1, 2, 3], [4]]):
            self.refused((0, 2, 0, 2), rows)

    def test_what_was_handed_in_may_be_changed(self):
        rows = [[1, 2], [3, 4]]
        grid = Grid((0, 2, 0, 2), rows)
        rows[0][0] = 9
        rows.append([5, 6])
        self.assertEqual(grid.rows, [[1, 2], [3, 4]])
        self.assertEqual(grid.at(0, 0), 1)

    def test_what_was_told_may_be_changed(self):
        grid = Grid((0, 2, 0, 2), [[1, 2], [3, 4]])
        grid.rows[0][0] = 9
        grid.rows.append([])
        grid.rows[1].append(7)
        self.assertEqual(grid.rows, [[1, 2], [3, 4]])
        self.assertEqual(grid.at(0, 0), 1)

    def test_nothing_handed_in_is_changed(self):
        rows = [[1, 2], [3, 4]]
        Grid((0, 2, 0, 2), rows)
        self.assertEqual(rows, [[1, 2], [3, 4]])


if __name__ == "__main__":
    unittest.main()
