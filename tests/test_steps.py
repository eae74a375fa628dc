"""Steps, words and bands: point [7]."""

import itertools
import unittest

from narrowingbits.errors import BadField, BadGrid, Outside
from narrowingbits.grids import Grid
from narrowingbits.steps import bands, halved, joined, unbands

NO_LETTERS = ("", "Z", "x", "XY", "XX", " ")
NO_WORDS = ("Z", "x", "XYx", "XY ", "X" * 11, "XY" * 6, "XYXYXYXYXYZ", "XXXXXXXXXXY")


def some_grid(rect, seed=1):
    """A grid with numbers of both signs, some of them great."""
    x0, x1, y0, y1 = rect
    if x0 == x1 or y0 == y1:
        return Grid(rect, [])
    rows = [[(x * 7919 + y * 104729 + seed * 31337) % 211 - 105 for x in range(x0, x1)]
            for y in range(y0, y1)]
    rows[0][0] = rows[0][0] * 10 ** 30
    return Grid(rect, rows)


def some_rects():
    """Rects with odd and even rims on both sides of nought."""
    for x0, y0 in itertools.product(range(-3, 3), repeat=2):
        for width, height in itertools.product((1, 2, 3, 4), repeat=2):
            yield (x0, x0 + width, y0, y0 + height)


def swapped(grid):
    x0, x1, y0, y1 = grid.rect
    return Grid((y0, y1, x0, x1), [list(column) for column in zip(*grid.rows)])


def cells_of(rect):
    x0, x1, y0, y1 = rect
    return [(x, y) for y in range(y0, y1) for x in range(x0, x1)]


def like(one, other):
    return (one.rect, one.rows) == (other.rect, other.rows)


class HalvedTest(unittest.TestCase):

    def told(self, parts, low, high):
        self.assertIsInstance(parts, tuple)
        self.assertEqual([(part.rect, part.rows) for part in parts], [low, high])

    def test_examples(self):
        self.told(halved(Grid((-1, 2, 0, 1), [[7, 5, 2]]), "X"),
                  ((-1, 1, 0, 1), [[7, 3]]), ((0, 1, 0, 1), [[3]]))
        self.told(halved(Grid((1, 3, 0, 1), [[4, 9]]), "X"),
                  ((0, 2, 0, 1), [[4, 9]]), ((1, 1, 0, 1), []))

    def test_the_examples_along_y(self):
        self.told(halved(Grid((0, 1, -1, 2), [[7], [5], [2]]), "Y"),
                  ((0, 1, -1, 1), [[7], [3]]), ((0, 1, 0, 1), [[3]]))
        self.told(halved(Grid((0, 1, 1, 3), [[4], [9]]), "Y"),
                  ((0, 1, 0, 2), [[4], [9]]), ((0, 1, 1, 1), []))

    def test_several_rows(self):
        grid = Grid((0, 3, 0, 2), [[1, 4, 5], [-2, -7, 6]])
        self.told(halved(grid, "X"), ((0, 2, 0, 2), [[2, 5], [-5, 6]]), ((0, 1, 0, 2), [[-3], [5]]))
        self.told(halved(grid, "Y"), ((0, 3, 0, 1), [[-1, -2, 5]]), ((0, 3, 0, 1), [[3, 11, -1]]))

    def test_a_cell_alone(self):
        for x in range(-3, 4):
            rect = (x, x + 1, 2, 4)
            low = (x // 2, x // 2 + 1, 2, 4)
            high = ((x + 1) // 2, (x + 1) // 2, 2, 4)
            self.told(halved(Grid(rect, [[5], [-6]]), "X"), (low, [[5], [-6]]), (high, []))
            self.told(halved(Grid((2, 4, x, x + 1), [[5, -6]]), letter="Y"),
                      ((2, 4, low[0], low[1]), [[5, -6]]), ((2, 4, high[0], high[1]), []))

    def test_cell_by_cell(self):
        for rect in some_rects():
            grid = some_grid(rect)
            x0, x1, y0, y1 = rect
            low, high = halved(grid, "X")
            self.assertEqual(low.rect, (x0 // 2, (x1 + 1) // 2, y0, y1))
            self.assertEqual(high.rect, ((x0 + 1) // 2, x1 // 2, y0, y1))
            for i, y in cells_of(low.rect):
                there = [grid.at(x, y) for x in (2 * i, 2 * i + 1) if x0 <= x < x1]
                self.assertEqual(low.at(i, y), sum(there) // len(there))
                is_high = high.rect[0] <= i < high.rect[1]
                self.assertEqual(is_high, len(there) == 2)
                if is_high:
                    self.assertEqual(high.at(i, y), there[0] - there[1])

    def test_y_is_x_with_both_exchanged(self):
        for rect in some_rects():
            grid = some_grid(rect)
            for one, other in zip(halved(grid, "Y"), halved(swapped(grid), "X")):
                x0, x1, y0, y1 = other.rect
                self.assertEqual(one.rect, (y0, y1, x0, x1))
                self.assertEqual(one.rows, [list(column) for column in zip(*other.rows)])

    def test_without_cells(self):
        for rect in ((0, 0, 0, 0), (1, 1, 0, 5), (0, 5, 2, 2)):
            for letter in ("X", "Y", "Z", ""):
                with self.assertRaises(Outside):
                    halved(Grid(rect, []), letter)

    def test_other_letters(self):
        for letter in NO_LETTERS:
            with self.assertRaises(BadField) as caught:
                halved(Grid((0, 1, 0, 1), [[1]]), letter)
            self.assertEqual(caught.exception.name, "word")


class JoinedTest(unittest.TestCase):

    def test_joining_undoes_halving(self):
        for rect in some_rects():
            grid = some_grid(rect)
            for letter in ("X", "Y"):
                low, high = halved(grid, letter)
                self.assertTrue(like(joined(low, high, rect, letter), grid))

    def test_halving_undoes_joining(self):
        for rect in some_rects():
            for letter in ("X", "Y"):
                low, high = halved(some_grid(rect), letter)
                low, high = some_grid(low.rect, 5), some_grid(high.rect, 9)
                parts = halved(joined(low, high, rect, letter), letter)
                self.assertTrue(like(parts[0], low) and like(parts[1], high))

    def test_the_example(self):
        grid = joined(Grid((-1, 1, 0, 1), [[7, 3]]), Grid((0, 1, 0, 1), [[3]]),
                      letter="X", rect=(-1, 2, 0, 1))
        self.assertEqual((grid.rect, grid.rows), ((-1, 2, 0, 1), [[7, 5, 2]]))

    def test_rects_turned_about(self):
        part = Grid((0, 0, 0, 0), [])
        for rect in ((1, 0, 0, 1), (0, 1, 1, 0), (1, 0, 0, 0), (0, 0, 1, 0)):
            for letter in ("X", "Z"):
                with self.assertRaises(BadGrid):
                    joined(part, part, rect, letter)

    def test_rects_without_cells(self):
        part = Grid((0, 0, 0, 0), [])
        for rect in ((0, 0, 0, 0), (0, 0, 0, 4), (0, 4, 0, 0)):
            for letter in ("X", "Z"):
                with self.assertRaises(Outside):
                    joined(part, part, rect, letter)

    def test_other_letters_ahead_of_other_parts(self):
        part = Grid((0, 0, 0, 0), [])
        for letter in NO_LETTERS:
            with self.assertRaises(BadField) as caught:
                joined(part, part, (0, 2, 0, 1), letter)
            self.assertEqual(caught.exception.name, "word")

    def test_parts_of_other_rects(self):
        rect = (0, 4, 0, 2)
        low, high = halved(some_grid(rect), "X")
        for other in ((0, 2, 0, 1), (0, 2, 1, 3), (1, 3, 0, 2), (0, 1, 0, 2), (0, 3, 0, 2), (0, 0, 0, 0)):
            with self.assertRaises(BadGrid):
                joined(some_grid(other), high, rect, "X")
            with self.assertRaises(BadGrid):
                joined(low, some_grid(other), rect, "X")
        with self.assertRaises(BadGrid):
            joined(low, high, rect, "Y")
        with self.assertRaises(BadGrid):
            joined(low, high, (0, 4, 2, 4), "X")

    def test_high_parts_without_cells_are_compared_as_tuples(self):
        low = Grid((0, 2, 0, 1), [[4, 9]])
        self.assertEqual(joined(low, Grid((1, 1, 0, 1), []), (1, 3, 0, 1), "X").rows, [[4, 9]])
        for rect in ((0, 0, 0, 1), (1, 1, 0, 0), (2, 2, 0, 1), (0, 0, 0, 0)):
            with self.assertRaises(BadGrid):
                joined(low, Grid(rect, []), (1, 3, 0, 1), "X")


class BandsTest(unittest.TestCase):

    def test_the_empty_word(self):
        grid = some_grid((-1, 4, 2, 5))
        told = bands(grid, "")
        self.assertEqual(len(told), 1)
        self.assertTrue(like(told[0], grid))
        self.assertTrue(like(unbands(told, grid.rect, ""), grid))

    def test_one_letter(self):
        for letter in ("X", "Y"):
            grid = some_grid((-1, 4, 2, 5))
            low, high = halved(grid, letter)
            told = bands(grid, letter)
            self.assertEqual(len(told), 2)
            self.assertTrue(like(told[0], low) and like(told[1], high))

    def test_the_first_letter_is_the_finest(self):
        grid = some_grid((-3, 4, -1, 6))
        low, last = halved(grid, "X")
        low, middle = halved(low, "Y")
        low, first = halved(low, "X")
        told = bands(grid=grid, word="XYX")
        self.assertEqual(len(told), 4)
        for one, other in zip(told, (low, first, middle, last)):
            self.assertTrue(like(one, other))

    def test_a_whole_example(self):
        told = bands(Grid((0, 4, 0, 1), [[9, 5, 2, 0]]), "XX")
        self.assertEqual([(part.rect, part.rows) for part in told],
                         [((0, 1, 0, 1), [[4]]), ((0, 1, 0, 1), [[6]]), ((0, 2, 0, 1), [[4, 2]])])

    def test_words_of_all_lengths_and_back(self):
        rect = (-5, 9, -3, 8)
        grid = some_grid(rect)
        for length in range(11):
            for seed in range(6):
                word = "".join("XY"[(k * seed + k // 2 + seed) // 2 % 2] for k in range(length))
                parts = bands(grid, word)
                self.assertEqual(len(parts), length + 1)
                self.assertTrue(like(unbands(parts, rect, word), grid))

    def test_all_small_words_and_back(self):
        for rect in ((0, 1, 0, 1), (-1, 0, 3, 5), (-3, 2, -2, 3), (1, 3, 1, 3), (-4, 4, 0, 8)):
            grid = some_grid(rect)
            for length in range(5):
                for letters in itertools.product("XY", repeat=length):
                    word = "".join(letters)
                    self.assertTrue(like(unbands(bands(grid, word), rect, word), grid))

    def test_many_letters_for_few_cells(self):
        grid = Grid((1, 2, -1, 0), [[8]])
        told = bands(grid, "XXXXXYYYYY")
        self.assertEqual((told[0].rect, told[0].rows), ((0, 1, -1, 0), [[8]]))
        self.assertEqual([part.rows for part in told[1:]], [[]] * 10)
        self.assertTrue(like(unbands(told, (1, 2, -1, 0), "XXXXXYYYYY"), grid))

    def test_parts_that_are_no_ones_bands_yet(self):
        for rect in ((0, 4, 0, 4), (-3, 2, -1, 6), (1, 4, 1, 4)):
            for word in ("", "X", "Y", "XY", "YX", "XYXY", "YYXX"):
                parts = [some_grid(part.rect, 3 + number)
                         for number, part in enumerate(bands(some_grid(rect), word))]
                grid = unbands(parts, rect, word)
                self.assertEqual(grid.rect, rect)
                for one, other in zip(bands(grid, word), parts):
                    self.assertTrue(like(one, other))

    def test_grids_without_cells(self):
        for rect in ((0, 0, 0, 0), (2, 2, 0, 3), (0, 3, 2, 2)):
            for word in ("", "X", "Z", "X" * 11):
                with self.assertRaises(Outside):
                    bands(Grid(rect, []), word)

    def test_other_words(self):
        for word in NO_WORDS:
            with self.assertRaises(BadField) as caught:
                bands(some_grid((0, 2, 0, 2)), word)
            self.assertEqual(caught.exception.name, "word")


class UnbandsTest(unittest.TestCase):

    def test_rects_turned_about(self):
        for rect in ((1, 0, 0, 1), (0, 1, 1, 0), (1, 0, 0, 0)):
            for word in ("", "Z"):
                with self.assertRaises(BadGrid):
                    unbands([], rect, word)

    def test_rects_without_cells(self):
        for rect in ((0, 0, 0, 0), (0, 0, 0, 4), (0, 4, 0, 0)):
            for word in ("", "X", "Z"):
                with self.assertRaises(Outside):
                    unbands([Grid(rect, [])], rect, word)

    def test_other_words_ahead_of_other_parts(self):
        for word in NO_WORDS:
            with self.assertRaises(BadField) as caught:
                unbands([], (0, 2, 0, 2), word)
            self.assertEqual(caught.exception.name, "word")

    def test_another_number_of_parts(self):
        rect = (0, 4, 0, 4)
        parts = bands(some_grid(rect), "XY")
        for wrong in ([], parts[:1], parts[:2], parts[1:], parts + parts[2:]):
            with self.assertRaises(BadGrid):
                unbands(wrong, rect, "XY")
        with self.assertRaises(BadGrid):
            unbands([], rect, "")

    def test_parts_of_other_rects(self):
        rect = (0, 4, 0, 4)
        parts = bands(some_grid(rect), "XY")
        for number in range(3):
            x0, x1, y0, y1 = parts[number].rect
            for other in ((x0 + 1, x1 + 1, y0, y1), (x0, x1, y0, y1 + 1), (x0, x0, y0, y0)):
                wrong = list(parts)
                wrong[number] = some_grid(other)
                with self.assertRaises(BadGrid):
                    unbands(wrong, rect, "XY")
        with self.assertRaises(BadGrid):
            unbands(parts, rect, "YX")
        with self.assertRaises(BadGrid):
            unbands([parts[0], parts[2], parts[1]], rect, "XY")

    def test_nothing_handed_in_is_changed(self):
        rect = (0, 4, 0, 4)
        parts = bands(some_grid(rect), "XY")
        before = [(part.rect, part.rows) for part in parts]
        unbands(parts=parts, rect=rect, word="XY")
        self.assertEqual([(part.rect, part.rows) for part in parts], before)
        self.assertEqual(len(parts), 3)


if __name__ == "__main__":
    unittest.main()
