"""Orders, tiles, lines and pieces: points [10] and [11]."""

import itertools
import unittest

from narrowingbits.errors import Outside
from narrowingbits.grids import Grid
from narrowingbits.orders import ORDERS, lines_of, pieces_of, tile_rect, tiles_of
from narrowingbits.settings import Setting
from narrowingbits.steps import bands


def made(rect=(-3, 4, -2, 3), mode=0, tx=2, ty=1, word="XY", layers=(2, 4), order="BCLT"):
    return Setting(rect, mode, tx, ty, word, 2, layers, order)


def cells_of(rect):
    x0, x1, y0, y1 = rect
    return [(x, y) for y in range(y0, y1) for x in range(x0, x1)]


def some_settings():
    for x0, y0 in itertools.product((-5, -4, -1, 0, 3), repeat=2):
        for width, height in ((1, 1), (2, 5), (7, 3), (4, 4), (9, 9)):
            for tx, ty, word in ((1, 2, ""), (1, 1, "YX"), (2, 3, "XYXYY"), (5, 5, "XXY"), (3, 2, "Y")):
                for mode in (0, 2):
                    yield made((x0, x0 + width, y0, y0 + height), mode, tx, ty, word, (6,))


class OrdersTest(unittest.TestCase):

    def test_the_24_in_alphabetical_order(self):
        self.assertIsInstance(ORDERS, tuple)
        self.assertEqual(list(ORDERS), sorted("".join(row) for row in itertools.permutations("BCLT")))

    def test_named_numbers(self):
        self.assertEqual([ORDERS[number] for number in (0, 13, 23)], ["BCLT", "LBTC", "TLCB"])


class TilesTest(unittest.TestCase):

    def test_tiles_below_nought_and_cut_by_the_rims(self):
        told = tiles_of(made())
        self.assertEqual(told, [(-1, -1), (-1, 0), (0, -1), (0, 0), (1, -1), (1, 0)])
        rects = [tile_rect(made(), j, i) for j, i in told]
        self.assertEqual(rects, [(-3, 0, -2, 0), (0, 4, -2, 0), (-3, 0, 0, 2), (0, 4, 0, 2),
                                 (-3, 0, 2, 3), (0, 4, 2, 3)])

    def test_the_example_of_point_12(self):
        setting = made((-1, 2, 0, 1), tx=1, ty=0, word="X")
        self.assertEqual(tiles_of(setting), [(0, -1), (0, 0)])
        self.assertEqual(tile_rect(setting, 0, -1), (-1, 0, 0, 1))
        self.assertEqual(tile_rect(setting, j=0, i=0), (0, 2, 0, 1))

    def test_cell_by_cell(self):
        for setting in some_settings():
            found = {}
            for x, y in cells_of(setting.rect):
                found.setdefault((y // 2 ** setting.ty, x // 2 ** setting.tx), []).append((x, y))
            self.assertEqual(tiles_of(setting), sorted(found))
            for j, i in sorted(found):
                rect = tile_rect(setting, j, i)
                self.assertIsInstance(rect, tuple)
                self.assertEqual(cells_of(rect), found[j, i])

    def test_far_tiles(self):
        far = 2 ** 30
        setting = made((far - 2, far, -far, -far + 3), tx=5, ty=1, word="")
        self.assertEqual(tiles_of(setting), [(-far // 2, far // 32 - 1), (-far // 2 + 1, far // 32 - 1)])
        self.assertEqual(tile_rect(setting, -far // 2 + 1, far // 32 - 1), (far - 2, far, -far + 2, -far + 3))

    def test_tiles_that_there_are_not(self):
        setting = made()
        for j, i in ((-2, 0), (2, 0), (0, -2), (0, 1), (-2, -1), (1, 1), (2, 1), (99, 0), (0, -99)):
            with self.assertRaises(Outside):
                tile_rect(setting, j, i)
        for setting in itertools.islice(some_settings(), 0, None, 7):
            there = tiles_of(setting)
            for j, i in itertools.product(range(-7, 15), repeat=2):
                if (j, i) not in there:
                    with self.assertRaises(Outside):
                        tile_rect(setting, j, i)

    def test_new_at_each_call(self):
        setting = made()
        before = tiles_of(setting)
        tiles_of(setting).append((5, 5))
        self.assertEqual(tiles_of(setting), before)


class LinesTest(unittest.TestCase):

    def test_a_small_one(self):
        setting = made((-1, 2, 0, 1), tx=1, ty=0, word="X")
        self.assertEqual(list(lines_of(setting)), [
            (0, 0, -1, 0, (-1, 0, 0, 1)), (0, 0, -1, 1, (0, 0, 0, 1)),
            (0, 0, 0, 0, (0, 1, 0, 1)), (0, 0, 0, 1, (0, 1, 0, 1))])

    def test_line_order_and_rects(self):
        for setting in some_settings():
            expected = []
            for c in range(1 if setting.mode == 0 else 3):
                for j, i in tiles_of(setting):
                    x0, x1, y0, y1 = rect = tile_rect(setting, j, i)
                    parts = bands(Grid(rect, [[0] * (x1 - x0)] * (y1 - y0)), setting.word)
                    expected += [(c, j, i, b, part.rect) for b, part in enumerate(parts)]
            told = list(lines_of(setting))
            self.assertEqual(told, expected)
            self.assertEqual([line[:4] for line in told], sorted(line[:4] for line in told))

    def test_modes(self):
        for mode, channels in ((0, [0]), (1, [0, 1, 2]), (2, [0, 1, 2])):
            told = {line[0]: True for line in lines_of(made(mode=mode))}
            self.assertEqual(list(told), channels)

    def test_a_for_loop_and_new_at_each_call(self):
        setting = made()
        told = []
        for c, j, i, b, rect in lines_of(setting=setting):
            told.append((c, j, i, b, rect))
        self.assertEqual(len(told), 18)
        self.assertEqual(list(lines_of(setting)), told)
        lines = lines_of(setting)
        self.assertEqual(next(lines), told[0])
        self.assertEqual(next(lines), told[1])
        self.assertEqual(next(lines_of(setting)), told[0])


class PiecesTest(unittest.TestCase):

    def test_by_each_order(self):
        for order in ORDERS:
            for mode, tx, word in ((0, 2, "XY"), (1, 2, ""), (2, 1, "YX"), (1, 1, "X")):
                setting = made(mode=mode, tx=tx, word=word, order=order, layers=(1, 2, 3))
                expected = []
                for c, j, i, b, _ in lines_of(setting):
                    for layer in range(3):
                        place = {"B": (b,), "C": (c,), "L": (layer,), "T": (j, i)}
                        key = sum((place[letter] for letter in order), ())
                        expected.append((key, (c, j, i, b, layer)))
                told = pieces_of(setting)
                self.assertEqual(told, [piece for _, piece in sorted(expected)])

    def test_named_orders(self):
        for order, expected in (
                ("CTBL", [(0, 0, -1, 0, 0), (0, 0, -1, 0, 1), (0, 0, -1, 1, 0), (0, 0, -1, 1, 1),
                          (0, 0, 0, 0, 0), (0, 0, 0, 0, 1), (0, 0, 0, 1, 0), (0, 0, 0, 1, 1)]),
                ("LBTC", [(0, 0, -1, 0, 0), (0, 0, 0, 0, 0), (0, 0, -1, 1, 0), (0, 0, 0, 1, 0),
                          (0, 0, -1, 0, 1), (0, 0, 0, 0, 1), (0, 0, -1, 1, 1), (0, 0, 0, 1, 1)]),
                ("BTCL", [(0, 0, -1, 0, 0), (0, 0, -1, 0, 1), (0, 0, 0, 0, 0), (0, 0, 0, 0, 1),
                          (0, 0, -1, 1, 0), (0, 0, -1, 1, 1), (0, 0, 0, 1, 0), (0, 0, 0, 1, 1)]),
                ("TLBC", [(0, 0, -1, 0, 0), (0, 0, -1, 1, 0), (0, 0, -1, 0, 1), (0, 0, -1, 1, 1),
                          (0, 0, 0, 0, 0), (0, 0, 0, 1, 0), (0, 0, 0, 0, 1), (0, 0, 0, 1, 1)])):
            setting = made((-1, 2, 0, 1), tx=1, ty=0, word="X", order=order)
            self.assertEqual(pieces_of(setting), expected)

    def test_tiles_go_by_j_ahead_of_i(self):
        told = pieces_of(made(order="TBCL", word="", layers=(6,)))
        self.assertEqual([piece[1:3] for piece in told],
                         [(-1, -1), (-1, 0), (0, -1), (0, 0), (1, -1), (1, 0)])

    def test_channels(self):
        told = pieces_of(made((0, 1, 0, 1), mode=2, word="", order="LCBT"))
        self.assertEqual(told, [(0, 0, 0, 0, 0), (1, 0, 0, 0, 0), (2, 0, 0, 0, 0),
                                (0, 0, 0, 0, 1), (1, 0, 0, 0, 1), (2, 0, 0, 0, 1)])

    def test_pieces_of_one_line_stand_with_ascending_layers(self):
        for order in ORDERS:
            told = pieces_of(made(mode=2, order=order, layers=(1, 1, 4)))
            layers = {}
            for c, j, i, b, layer in told:
                layers.setdefault((c, j, i, b), []).append(layer)
            self.assertEqual(list(layers.values()), [[0, 1, 2]] * 54)

    def test_lines_without_cells_have_pieces(self):
        told = pieces_of(made((1, 2, 0, 1), tx=1, ty=0, word="X", order="BCLT"))
        self.assertEqual(told, [(0, 0, 0, 0, 0), (0, 0, 0, 0, 1), (0, 0, 0, 1, 0), (0, 0, 0, 1, 1)])

    def test_new_at_each_call(self):
        setting = made()
        before = pieces_of(setting)
        self.assertIsInstance(before, list)
        pieces_of(setting=setting).clear()
        self.assertEqual(pieces_of(setting), before)


if __name__ == "__main__":
    unittest.main()
