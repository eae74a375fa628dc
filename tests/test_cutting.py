"""Cutting: points [18] and [19]."""

import itertools
import random
import unittest

from narrowingbits.cutting import cut, keep_layers, thin
from narrowingbits.errors import Outside
from narrowingbits.orders import ORDERS, pieces_of, tiles_of
from narrowingbits.pictures import Picture
from narrowingbits.reading import box_of
from narrowingbits.settings import Setting
from narrowingbits.streams import Stream, code, is_right

from picture_reference import (changed, coded_picture, fields_of, piece_table, some_settings, spoilt, stream_told)

TWO_CELLS = Setting((0, 2, 0, 1), 0, 1, 0, "X", 3, (9,), "LBTC")
PIECE = [0, 0, 1, 1, 1, 1]
EXAMPLE = code(Picture((0, 2, 0, 1), [[[5, 2]]]), TWO_CELLS)


def some_streams():
    for number, setting in enumerate(some_settings()):
        setting = changed(setting, order=ORDERS[number * 5 % 24])
        stream = code(coded_picture(setting, number), setting)
        yield stream
        yield spoilt(stream, number)
        yield Stream(setting, [[]] * len(stream.pieces))


class CutTest(unittest.TestCase):

    def test_the_example(self):
        for n in range(13):
            told = cut(EXAMPLE, n)
            self.assertIsInstance(told, Stream)
            self.assertEqual(told.pieces, [PIECE[:n], PIECE[:max(0, n - 6)]])

    def test_all_numbers(self):
        for stream in some_streams():
            bits = [bit for piece in stream for bit in piece]
            for n in range(len(bits) + 1):
                told = cut(stream, n)
                self.assertEqual([bit for piece in told for bit in piece], bits[:n])
                self.assertEqual(fields_of(told.setting), fields_of(stream.setting))
                # The piece in which the bits end is the last one with bits.
                lengths = [len(piece) for piece in told]
                left = n
                for length, piece in zip(lengths, stream):
                    self.assertEqual(length, min(left, len(piece)))
                    left -= length

    def test_right_streams_stay_right_and_boxes_hold_the_box(self):
        for stream in some_streams():
            many = sum(len(piece) for piece in stream)
            right = is_right(stream)
            for n in {0, 1, many // 3, many // 2, max(0, many - 1), many}:
                told = cut(stream, min(n, many))
                if right:
                    self.assertTrue(is_right(told))
                self.assertTrue(box_of(stream).inside(box_of(told)))

    def test_outside(self):
        for stream in some_streams():
            many = sum(len(piece) for piece in stream)
            for n in (-1, many + 1, 10 ** 20, -10 ** 20):
                with self.assertRaises(Outside):
                    cut(stream, n)
            self.assertEqual(cut(n=many, stream=stream).pieces, stream.pieces)


class KeepLayersTest(unittest.TestCase):

    def test_all_numbers(self):
        for stream in some_streams():
            for m in range(len(stream.setting.layers) + 1):
                told = keep_layers(stream, m)
                expected = [piece if key[4] < m else [] for key, piece in piece_table(stream).items()]
                self.assertEqual(stream_told(told), (fields_of(stream.setting), expected))

    def test_what_code_writes(self):
        for number, setting in enumerate(some_settings()):
            picture = coded_picture(setting, number)
            stream = code(picture, setting)
            for m in range(len(setting.layers) + 1):
                self.assertEqual(keep_layers(stream, m).pieces, code(picture, setting, layers=m).pieces)

    def test_outside(self):
        for stream in some_streams():
            for m in (-1, len(stream.setting.layers) + 1, 99):
                with self.assertRaises(Outside):
                    keep_layers(stream, m)
        self.assertEqual(keep_layers(m=0, stream=EXAMPLE).pieces, [[], []])


class ThinTest(unittest.TestCase):

    def test_many_rows_of_numbers(self):
        source = random.Random(1)
        for stream in some_streams():
            tiles = tiles_of(stream.setting)
            most = len(stream.setting.layers)
            for counts in ([0] * len(tiles), [most] * len(tiles), *[[source.randint(0, most) for _ in tiles]
                                                                    for _ in range(6)]):
                kept = dict(zip(tiles, counts))
                expected = [piece if key[4] < kept[key[1:3]] else [] for key, piece in piece_table(stream).items()]
                for form in (counts, tuple(counts)):
                    self.assertEqual(stream_told(thin(stream, form)), (fields_of(stream.setting), expected))

    def test_right_streams_stay_right(self):
        for number, setting in enumerate(some_settings()):
            stream = code(coded_picture(setting, number), setting)
            counts = itertools.cycle(range(len(setting.layers) + 1))
            self.assertTrue(is_right(thin(stream, [next(counts) for _ in tiles_of(setting)])))

    def test_outside(self):
        for stream in some_streams():
            many = len(tiles_of(stream.setting))
            most = len(stream.setting.layers)
            for counts in ([0] * (many - 1), [0] * (many + 1), [0] * (many - 1) + [-1], [most + 1] + [0] * (many - 1),
                           [most + 1] * (many + 1), (0,) * (many + 3)):
                with self.assertRaises(Outside):
                    thin(stream, counts)

    def test_nothing_is_changed(self):
        counts = [1]
        before = stream_told(EXAMPLE)
        told = thin(counts=counts, stream=EXAMPLE)
        self.assertEqual(counts, [1])
        counts[0] = 0
        told.pieces.clear()
        self.assertEqual(told.pieces, [PIECE, PIECE])
        for call, number in ((cut, 3), (keep_layers, 0)):
            call(EXAMPLE, number)
        self.assertEqual(stream_told(EXAMPLE), before)

    def test_the_lines_of_a_tile(self):
        setting = Setting((0, 2, 0, 1), 1, 0, 0, "", 1, (1, 2), "LTBC")
        stream = code(Picture((0, 2, 0, 1), [[[1, 0]], [[0, 1]], [[-1, 1]]]), setting)
        kept = piece_table(thin(stream, [2, 0]))
        for key in pieces_of(setting):
            self.assertEqual(kept[key], piece_table(stream)[key] if key[2] == 0 else [])


if __name__ == "__main__":
    unittest.main()
