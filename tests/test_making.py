"""Making: points [18] and [23]."""

import unittest

from narrowingbits.cutting import cut
from narrowingbits.errors import BadField, Cut, Outside, TooFew, TooMany, Unlike
from narrowingbits.making import patch, relayer, retile
from narrowingbits.orders import ORDERS, pieces_of, tile_rect, tiles_of
from narrowingbits.pictures import Picture
from narrowingbits.reading import box_of
from narrowingbits.settings import Setting
from narrowingbits.streams import Stream, code, is_whole

from deed_reference import broken_streams, exchanged, part_of, settings_in_many_orders
from picture_reference import (changed, channel_count, coded_picture, fields_of, piece_table, some_settings,
                               stream_told, told)

TWO_CELLS = Setting((0, 2, 0, 1), 0, 1, 0, "X", 3, (9,), "LBTC")
EXAMPLE = code(Picture((0, 2, 0, 1), [[[5, 2]]]), TWO_CELLS)


def not_whole(stream):
    """Streams of the same setting that are not whole."""
    pieces = stream.pieces
    longest = max(range(len(pieces)), key=lambda at: len(pieces[at]))
    shorter = pieces[longest][:-1]
    return [Stream(stream.setting, pieces[:longest] + [other] + pieces[longest + 1:])
            for other in (shorter, pieces[longest] + [0], [])]


class MakingTest(unittest.TestCase):

    def assert_same(self, stream, expected):
        self.assertIsInstance(stream, Stream)
        self.assertEqual(stream_told(stream), stream_told(expected))

    def assert_field(self, name, deed, *things):
        with self.assertRaises(BadField) as caught:
            deed(*things)
        self.assertEqual(caught.exception.name, name, things)


class PatchTest(MakingTest):

    def test_what_code_writes(self):
        for number, setting in enumerate(settings_in_many_orders()):
            picture, other = coded_picture(setting, number), coded_picture(setting, number + 50)
            stream = code(picture, setting)
            for j, i in tiles_of(setting):
                part = part_of(other, tile_rect(setting, j, i))
                self.assert_same(patch(picture=part, i=i, j=j, stream=stream),
                                 code(exchanged(picture, part), setting))

    def test_tile_by_tile(self):
        for number, setting in enumerate(some_settings()):
            stream = code(coded_picture(setting, number), setting)
            other = coded_picture(setting, number + 50)
            for j, i in tiles_of(setting):
                stream = patch(stream, j, i, part_of(other, tile_rect(setting, j, i)))
            self.assert_same(stream, code(other, setting))

    def test_of_cut_and_spoilt_streams(self):
        for number, setting in enumerate(some_settings()):
            other = coded_picture(setting, number + 50)
            whole = piece_table(code(other, setting))
            for stream in broken_streams(setting, number):
                for j, i in tiles_of(setting):
                    expected = [whole[key] if key[1:3] == (j, i) else piece
                                for key, piece in piece_table(stream).items()]
                    self.assert_same(patch(stream, j, i, part_of(other, tile_rect(setting, j, i))),
                                     Stream(setting, expected))

    def test_outside_then_unlike_then_too_few(self):
        for setting in some_settings():
            stream = code(coded_picture(setting, 1), setting)
            tiles = tiles_of(setting)
            (j, i), (last_j, last_i) = tiles[0], tiles[-1]
            great = 10 ** 9
            rect = tile_rect(setting, j, i)
            x0, x1, y0, y1 = rect
            row = [great] * (x1 - x0)
            many = channel_count(setting)
            fitting = Picture(rect, [[row] * (y1 - y0)] * many)
            for other in ((j - 1, i), (last_j + 1, i), (j, i - 1), (j, last_i + 1), (10 ** 20, -10 ** 20)):
                for picture in (fitting, Picture((0, 1, 0, 1), [[[great]]])):
                    with self.assertRaises(Outside):
                        patch(stream, *other, picture)
            for picture in (Picture(rect, [[row] * (y1 - y0)] * (4 - many)),
                            Picture((x0 + 1, x1 + 1, y0, y1), [[row] * (y1 - y0)] * many),
                            Picture((x0, x1, y0 - 1, y1), [[row] * (y1 - y0 + 1)] * many),
                            Picture((x0, x1 + 1, y0, y1), [[row + [0]] * (y1 - y0)] * many)):
                with self.assertRaises(Unlike):
                    patch(stream, j, i, picture)
            with self.assertRaises(TooFew) as caught:
                patch(stream, j, i, fitting)
            self.assertEqual(caught.exception.planes, 3)
            if len(tiles) > 1:
                with self.assertRaises(Unlike):
                    patch(stream, j, i, coded_picture(setting, 1))


class RetileTest(MakingTest):

    def test_what_code_writes(self):
        for number, setting in enumerate(settings_in_many_orders(9)):
            picture = coded_picture(setting, number)
            stream = code(picture, setting)
            for tx in range(setting.word.count("X"), 6):
                for ty in range(setting.word.count("Y"), 6):
                    result = retile(ty=ty, tx=tx, stream=stream)
                    self.assert_same(result, code(picture, changed(setting, tx=tx, ty=ty)))
                    self.assert_same(retile(result, setting.tx, setting.ty), stream)

    def test_errors(self):
        setting = Setting((0, 32, 0, 32), 1, 5, 5, "XXY", 3, (4, 5), "TCLB")
        whole = code(Picture(setting.rect, [[[0] * 32] * 32] * 3), setting)
        for tx, ty, name in ((6, 6, "tx"), (-1, 9, "tx"), (10 ** 30, 0, "tx"), (0, 6, "ty"), (1, -1, "ty"),
                             (2, 10 ** 30, "ty"), (0, 0, "word"), (1, 1, "word"), (2, 0, "word"), (5, 0, "word")):
            self.assert_field(name, retile, whole, tx, ty)
        with self.assertRaises(TooMany) as caught:
            retile(whole, 2, 1)
        self.assertEqual(caught.exception.most, 2000)
        self.assertEqual(len(retile(whole, 3, 2).pieces), 3 * 4 * 8 * 4 * 2)
        for stream in not_whole(whole) + [Stream(setting, [[]] * len(whole.pieces))]:
            for tx, ty in ((5, 5), (4, 4), (6, 6), (0, 0), (2, 1)):
                with self.assertRaises(Cut):
                    retile(stream, tx, ty)


class RelayerTest(MakingTest):

    def test_what_code_writes(self):
        for number, setting in enumerate(settings_in_many_orders(9)):
            picture = coded_picture(setting, number)
            stream = code(picture, setting)
            for planes, layers in ((3, (9,)), (3, [4, 5]), (3, (1, 1, 1, 1, 1, 4)), (4, (12,)), (7, (3, 18)), (20, [60])):
                result = relayer(layers=layers, planes=planes, stream=stream)
                self.assert_same(result, code(picture, changed(setting, planes=planes, layers=layers)))
                self.assert_same(relayer(result, setting.planes, setting.layers), stream)

    def test_fewer_planes(self):
        for great, planes in ((0, 1), (1, 1), (-1, 1), (3, 2), (-3, 2), (4, 3), (7, 3), (8, 4), (-1000, 10)):
            setting = changed(TWO_CELLS, word="", planes=12, layers=(36,))
            stream = code(Picture((0, 2, 0, 1), [[[great, 0]]]), setting)
            expected = changed(setting, planes=planes, layers=(3 * planes,))
            self.assert_same(relayer(stream, planes, [3 * planes]), code(Picture((0, 2, 0, 1), [[[great, 0]]]), expected))
            for fewer in range(1, planes):
                with self.assertRaises(TooFew) as caught:
                    relayer(stream, fewer, [3 * fewer])
                self.assertEqual(caught.exception.planes, fewer)

    def test_errors(self):
        for planes, layers, name in ((0, (9,), "planes"), (21, (63,), "planes"), (-1, (), "planes"),
                                     (3, (8,), "layers"), (3, (10,), "layers"), (3, (), "layers"),
                                     (3, [9, 0], "layers"), (3, (1,) * 9, "layers"), (1, (10, -7), "layers"),
                                     (1, (9,), "layers")):
            self.assert_field(name, relayer, EXAMPLE, planes, layers)
        setting = Setting((0, 20, 0, 20), 1, 0, 0, "", 3, (9,), "LBTC")
        whole = code(coded_picture(setting, 4), setting)
        for planes, layers in ((3, (4, 5)), (1, (2, 1)), (20, (59, 1))):
            with self.assertRaises(TooMany) as caught:
                relayer(whole, planes, layers)
            self.assertEqual(caught.exception.most, 2000)
        for stream in not_whole(EXAMPLE) + [cut(EXAMPLE, n) for n in range(12)]:
            for planes, layers in ((3, (9,)), (4, (12,)), (0, ()), (3, (1,)), (1, (3,))):
                with self.assertRaises(Cut):
                    relayer(stream, planes, layers)


class WholeOnlyTest(MakingTest):

    def test_streams_that_are_not_whole(self):
        for number, setting in enumerate(some_settings()):
            # Of a very small stream the bits that spoil it may change nothing.
            broken = [stream for stream in broken_streams(setting, number) if not is_whole(stream)]
            for stream in broken + not_whole(code(coded_picture(setting, 2), setting)):
                self.assertFalse(is_whole(stream))
                with self.assertRaises(Cut):
                    retile(stream, setting.tx, setting.ty)
                with self.assertRaises(Cut):
                    relayer(stream, setting.planes, setting.layers)

    def test_streams_that_are_handed_in(self):
        for number, setting in enumerate(some_settings()):
            setting = changed(setting, order=ORDERS[number])
            picture = coded_picture(setting, number)
            stream = code(picture, setting)
            before = stream_told(stream)
            layers = [4, 5]
            j, i = tiles_of(setting)[-1]
            part = part_of(picture, tile_rect(setting, j, i))
            part_before = told(part)
            for result in (patch(stream, j, i, part), retile(stream, setting.tx, setting.ty),
                           relayer(stream, 3, layers)):
                result.pieces[0].append(1)
                result.pieces.append([])
                self.assertEqual(len(result.pieces), len(pieces_of(result.setting)))
                self.assertEqual(told(box_of(result).nearest()), told(picture))
                self.assertEqual((stream_told(stream), told(part), layers), (before, part_before, [4, 5]))
            self.assertEqual(fields_of(retile(stream, 5, 5).setting), {**fields_of(setting), "tx": 5, "ty": 5})
            result = relayer(stream, 3, layers)
            layers.append(1)
            self.assertEqual(result.setting.layers, (4, 5))


if __name__ == "__main__":
    unittest.main()
