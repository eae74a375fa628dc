"""Moving: points [18], [20] and the examples of [22] that name shrink."""

import itertools
import unittest

from narrowingbits.cutting import cut
from narrowingbits.errors import BadField, Outside
from narrowingbits.moving import reorder, shift, shrink, take
from narrowingbits.orders import ORDERS, lines_of, pieces_of, tile_rect, tiles_of
from narrowingbits.pictures import Picture
from narrowingbits.reading import box_of
from narrowingbits.settings import Setting
from narrowingbits.streams import Stream, code

from deed_reference import (broken_streams, low_picture, low_setting, part_of, rows_by_line,
                            settings_in_many_orders)
from picture_reference import (FORMS, changed, coded_picture, fields_of, members_of, piece_table, some_settings,
                               stream_told, told)

FAR = 2 ** 30
TWO_CELLS = Setting((0, 2, 0, 1), 0, 1, 0, "X", 3, (9,), "LBTC")
EXAMPLE = code(Picture((0, 2, 0, 1), [[[5, 2]]]), TWO_CELLS)
PIECE = [0, 0, 1, 1, 1, 1]


def spans_of_tiles(setting):
    """All (j0, j1, i0, i1) within the tiles, in a few steps."""
    tiles = tiles_of(setting)
    (j, i), (last_j, last_i) = tiles[0], tiles[-1]
    for j0, j1 in itertools.combinations(range(j, last_j + 2), 2):
        for i0, i1 in itertools.combinations(range(i, last_i + 2), 2):
            yield j0, j1, i0, i1


class DeedTest(unittest.TestCase):

    def assert_same(self, stream, expected):
        self.assertIsInstance(stream, Stream)
        self.assertEqual(stream_told(stream), stream_told(expected))

    def assert_box(self, result, stream, kept):
        """That the box of the result has the rows of the kept lines, a dict from new to old ones."""
        rows = rows_by_line(stream)
        self.assertEqual(rows_by_line(result), {new: rows[old] for new, old in kept.items()})
        before = piece_table(stream)
        for (c, j, i, b, l), piece in piece_table(result).items():
            self.assertEqual(piece, before[kept[c, j, i, b] + (l,)])


class ShrinkTest(DeedTest):

    def test_the_example(self):
        told_stream = shrink(EXAMPLE, 1)
        expected = Setting((0, 1, 0, 1), 0, 0, 0, "", 3, (9,), "LBTC")
        self.assertEqual(stream_told(told_stream), (fields_of(expected), [PIECE]))
        self.assertEqual(box_of(told_stream).nearest().channels, [[[3]]])
        self.assert_same(shrink(EXAMPLE, 0), EXAMPLE)

    def test_red_green_and_blue(self):
        setting = Setting((0, 2, 0, 1), 2, 1, 0, "X", 3, (9,), "LBTC")
        stream = code(Picture((0, 2, 0, 1), [[[1, 0]], [[0, 0]], [[1, 0]]]), setting)
        self.assertEqual(box_of(shrink(stream, 1)).nearest().channels, [[[1]], [[0]], [[1]]])

    def test_what_code_writes(self):
        for number, setting in enumerate(settings_in_many_orders()):
            picture = coded_picture(setting, number)
            stream = code(picture, setting)
            for n in range(len(setting.word) + 1):
                expected = code(low_picture(picture, setting.mode, setting.word[:n]), low_setting(setting, n))
                self.assert_same(shrink(stream, n), expected)

    def test_of_cut_and_spoilt_streams(self):
        for number, setting in enumerate(some_settings()):
            for stream in broken_streams(setting, number):
                for n in range(len(setting.word) + 1):
                    kept = {line[:4]: line[:4] for line in lines_of(setting) if line[3] <= len(setting.word) - n}
                    result = shrink(stream, n)
                    self.assertEqual(fields_of(result.setting), fields_of(low_setting(setting, n)))
                    self.assertEqual(tiles_of(result.setting), tiles_of(setting))
                    self.assert_box(result, stream, kept)

    def test_the_members_of_small_boxes(self):
        for mode in (0, 2):
            setting = Setting((-1, 2, 0, 1), mode, 1, 0, "X", 2, (6,), "LBTC")
            stream = code(coded_picture(setting, 8), setting)
            many = sum(len(piece) for piece in stream)
            for n in range(many - 5, many + 1):
                shorter = cut(stream, n)
                found = {str(told(low_picture(picture, mode, "X"))) for picture in members_of(box_of(shorter))}
                self.assertEqual(found, {str(told(picture)) for picture in members_of(box_of(shrink(shorter, 1)))})

    def test_outside(self):
        for setting in some_settings():
            stream = code(coded_picture(setting, 1), setting)
            for n in (-1, len(setting.word) + 1, 99):
                with self.assertRaises(Outside):
                    shrink(stream, n)


class TakeTest(DeedTest):

    def test_what_code_writes(self):
        for number, setting in enumerate(settings_in_many_orders()):
            picture = coded_picture(setting, number)
            stream = code(picture, setting)
            for j0, j1, i0, i1 in itertools.islice(spans_of_tiles(setting), 0, None, 3):
                corners = [tile_rect(setting, j0, i0), tile_rect(setting, j1 - 1, i1 - 1)]
                rect = (corners[0][0], corners[1][1], corners[0][2], corners[1][3])
                expected = code(part_of(picture, rect), changed(setting, rect=rect))
                self.assert_same(take(stream, j0, j1, i0, i1), expected)

    def test_of_cut_and_spoilt_streams(self):
        for number, setting in enumerate(some_settings()):
            for stream in broken_streams(setting, number):
                for j0, j1, i0, i1 in itertools.islice(spans_of_tiles(setting), 0, None, 5):
                    result = take(stream, j0, j1, i0, i1)
                    tiles = [(j, i) for j, i in tiles_of(setting) if j0 <= j < j1 and i0 <= i < i1]
                    self.assertEqual(tiles_of(result.setting), tiles)
                    kept = {line[:4]: line[:4] for line in lines_of(setting) if line[1:3] in tiles}
                    self.assert_box(result, stream, kept)

    def test_all_tiles(self):
        for number, setting in enumerate(some_settings()):
            (j0, i0), (j1, i1) = tiles_of(setting)[0], tiles_of(setting)[-1]
            for stream in broken_streams(setting, number):
                self.assert_same(take(stream, j0=j0, j1=j1 + 1, i0=i0, i1=i1 + 1), stream)

    def test_outside(self):
        for setting in some_settings():
            stream = code(coded_picture(setting, 1), setting)
            (j, i), (last_j, last_i) = tiles_of(setting)[0], tiles_of(setting)[-1]
            for j0, j1, i0, i1 in ((j - 1, j + 1, i, i + 1), (j, last_j + 2, i, i + 1), (j, j, i, i + 1),
                                   (last_j + 1, last_j + 2, i, i + 1), (j + 1, j, i, i + 1), (j, j + 1, i, i),
                                   (j, j + 1, i - 1, i + 1), (j, j + 1, i, last_i + 2), (j, j + 1, i + 1, i),
                                   (j, j + 1, last_i + 1, last_i + 1), (last_j + 1, last_j + 1, i, i + 1),
                                   (j - 9, j - 3, i, i + 1), (10 ** 20, 10 ** 20 + 1, i, i + 1)):
                with self.assertRaises(Outside):
                    take(stream, j0, j1, i0, i1)


class ShiftTest(DeedTest):

    def test_what_code_writes(self):
        for number, setting in enumerate(settings_in_many_orders()):
            picture = coded_picture(setting, number)
            stream = code(picture, setting)
            x0, x1, y0, y1 = setting.rect
            for a, b in ((0, 0), (1, 0), (0, -1), (-3, 2), (1000, -999)):
                by_x, by_y = a * 2 ** setting.tx, b * 2 ** setting.ty
                rect = (x0 + by_x, x1 + by_x, y0 + by_y, y1 + by_y)
                self.assert_same(shift(stream, a, b),
                                 code(Picture(rect, picture.channels), changed(setting, rect=rect)))

    def test_of_cut_and_spoilt_streams(self):
        for number, setting in enumerate(some_settings()):
            for stream in broken_streams(setting, number):
                result = shift(stream, a=-2, b=5)
                kept = {(c, j + 5, i - 2, b): (c, j, i, b) for c, j, i, b, _ in lines_of(setting)}
                self.assert_box(result, stream, kept)
                self.assertEqual(result.pieces, stream.pieces)

    def test_the_first_wrong_rim(self):
        stream = code(Picture((0, 2, 0, 3), [[[1, 2]] * 3]), Setting((0, 2, 0, 3), 0, 1, 0, "", 3, (9,), "LBTC"))
        for a, b, name in ((FAR // 2 + 1, 0, "x0"), (-FAR // 2 - 1, 0, "x0"), (FAR // 2, 0, "width"),
                           (0, FAR + 1, "y0"), (0, -FAR - 1, "y0"), (0, FAR - 2, "height"), (0, FAR, "height"),
                           (10 ** 30, 10 ** 30, "x0"), (FAR // 2, FAR + 1, "width"), (-10 ** 30, 0, "x0"),
                           (5, 10 ** 30, "y0"), (0, FAR + 1, "y0")):
            with self.assertRaises(BadField) as caught:
                shift(stream, a, b)
            self.assertEqual(caught.exception.name, name, (a, b))
        for a, b in ((FAR // 2 - 1, 0), (-FAR // 2, 0), (0, FAR - 3), (0, -FAR), (-FAR // 2, -FAR)):
            moved = shift(stream, a, b)
            self.assertEqual(moved.setting.rect, (2 * a, 2 * a + 2, b, b + 3))
            self.assert_same(shift(moved, -a, -b), stream)


class ReorderTest(DeedTest):

    def test_what_code_writes(self):
        for number, setting in enumerate(some_settings()):
            picture = coded_picture(setting, number)
            stream = code(picture, setting)
            for order in ORDERS:
                self.assert_same(reorder(stream, order), code(picture, changed(setting, order=order)))

    def test_of_cut_and_spoilt_streams(self):
        for number, setting in enumerate(some_settings()):
            for stream in broken_streams(setting, number):
                for order in ORDERS[::5]:
                    result = reorder(order=order, stream=stream)
                    self.assertEqual(fields_of(result.setting), {**fields_of(setting), "order": order})
                    self.assert_box(result, stream, {line[:4]: line[:4] for line in lines_of(setting)})
                    self.assert_same(reorder(result, setting.order), stream)

    def test_no_orders(self):
        for order in ("", "BCL", "BCLTB", "BBCL", "bclt", "XYZW", "BCLTT"):
            with self.assertRaises(BadField) as caught:
                reorder(EXAMPLE, order)
            self.assertEqual(caught.exception.name, "order")


class NothingChangedTest(unittest.TestCase):

    def test_streams_that_are_handed_in(self):
        for number, form in enumerate(FORMS):
            setting = Setting(*form, 3, (4, 5), ORDERS[number])
            stream = code(coded_picture(setting, number), setting)
            before = stream_told(stream)
            (j, i), (last_j, last_i) = tiles_of(setting)[0], tiles_of(setting)[-1]
            for result in (shrink(stream=stream, n=0), take(stream, j, last_j + 1, i, last_i + 1), shift(stream, 1, 1),
                           reorder(stream, "TLCB"), shift(stream, 0, 0)):
                result.pieces[0].append(1)
                self.assertEqual(len(result.pieces), len(pieces_of(setting)))
                self.assertEqual(stream_told(stream), before)


if __name__ == "__main__":
    unittest.main()
