"""Thrift: point [19]."""

import itertools
import unittest

from narrowingbits.bounds import samples, widest
from narrowingbits.cutting import keep_layers, thin
from narrowingbits.errors import Outside
from narrowingbits.orders import tiles_of
from narrowingbits.pictures import Picture
from narrowingbits.reading import box_of
from narrowingbits.settings import Setting
from narrowingbits.streams import Stream, code
from narrowingbits.thrifts import least_layers, thrift

from picture_reference import coded_picture, some_settings, spoilt, stream_told

TWO_CELLS = Setting((0, 2, 0, 1), 0, 1, 0, "X", 3, (3, 3, 3), "LBTC")
EXAMPLE = code(Picture((0, 2, 0, 1), [[[5, 2]]]), TWO_CELLS)


def some_streams():
    for number, setting in enumerate(some_settings(planes=3)):
        stream = code(coded_picture(setting, number), setting)
        yield stream
        yield spoilt(stream, number)
        yield keep_layers(stream, len(setting.layers) - 1)


def payload_bits(stream):
    return sum(len(piece) for piece in stream)


def widths_of(stream):
    return [high - low for rows in samples(box_of(stream)) for row in rows for low, high in row]


def all_widths(stream):
    """Widths around all that numbers of layers make."""
    found = {0}
    for m in range(len(stream.setting.layers) + 1):
        found.update(widths_of(keep_layers(stream, m)))
    return sorted(found | {width - 1 for width in found if width > 0} | {width + 1 for width in found})


class LeastLayersTest(unittest.TestCase):

    def test_against_trying_all(self):
        for stream in some_streams():
            numbers = range(len(stream.setting.layers) + 1)
            worst = [widest(box_of(keep_layers(stream, m))) for m in numbers]
            widths = all_widths(stream)
            for w in widths[::1 + len(widths) // 9] + widths[-1:]:
                self.assertEqual(least_layers(stream, w), next((m for m in numbers if worst[m] <= w), None))

    def test_none_and_the_ends(self):
        self.assertEqual(least_layers(EXAMPLE, 0), 3)
        self.assertEqual(least_layers(w=10 ** 30, stream=EXAMPLE), 0)
        self.assertIsNone(least_layers(keep_layers(EXAMPLE, 2), 0))
        self.assertIsNone(least_layers(Stream(TWO_CELLS, [[]] * 6), 20))
        self.assertEqual(least_layers(Stream(TWO_CELLS, [[]] * 6), 21), 0)


class ThriftTest(unittest.TestCase):

    def by_tiles(self, stream, w):
        """The least numbers, tile by tile, by the cells of the tiles."""
        setting = stream.setting
        x0, _, y0, _ = setting.rect
        found = []
        for j, i in tiles_of(setting):
            for m in range(len(setting.layers) + 1):
                told = samples(box_of(keep_layers(stream, m)))
                widths = [high - low for rows in told for y, row in enumerate(rows, start=y0)
                          for x, (low, high) in enumerate(row, start=x0)
                          if y // 2 ** setting.ty == j and x // 2 ** setting.tx == i]
                if max(widths) <= w:
                    found.append(m)
                    break
            else:
                return None
        return found

    def test_against_trying_all_layers_of_each_tile(self):
        for stream in list(some_streams())[::2]:
            widths = all_widths(stream)
            for w in widths[::1 + len(widths) // 3] + [0]:
                self.assertEqual(thrift(stream, w), self.by_tiles(stream, w))

    def test_no_list_leaves_fewer_bits(self):
        found = 0
        for number, setting in enumerate(some_settings(planes=2, layers=((6,), (1, 5), (2, 2, 2)))):
            tiles = tiles_of(setting)
            numbers = range(len(setting.layers) + 1)
            if len(numbers) ** len(tiles) > 70:
                continue
            stream = code(coded_picture(setting, number), setting)
            all_counts = list(itertools.product(numbers, repeat=len(tiles)))
            for w in all_widths(stream)[::3]:
                told = thrift(stream, w)
                fewest = min(payload_bits(thin(stream, counts)) for counts in all_counts
                             if max(widths_of(thin(stream, counts))) <= w)
                self.assertLessEqual(max(widths_of(thin(stream, told))), w)
                self.assertEqual(payload_bits(thin(stream, told)), fewest)
                found += 1
        self.assertGreater(found, 20)

    def test_none_if_some_tile_has_no_number(self):
        setting = Setting((0, 2, 0, 1), 0, 0, 0, "", 1, (3,), "TLBC")
        self.assertEqual(thrift(Stream(setting, [[0, 0], [0, 0]]), 0), [1, 1])
        self.assertIsNone(thrift(Stream(setting, [[0, 0], [0]]), 0))
        self.assertIsNone(thrift(Stream(setting, [[], [0, 0]]), 1))
        self.assertEqual(thrift(Stream(setting, [[], [0, 0]]), 2), [0, 0])

    def test_outside_and_new_at_each_call(self):
        for w in (-1, -10 ** 30):
            for call in (least_layers, thrift):
                with self.assertRaises(Outside):
                    call(EXAMPLE, w)
        before = stream_told(EXAMPLE)
        thrift(w=0, stream=EXAMPLE).append(9)
        self.assertEqual(thrift(EXAMPLE, 0), [3])
        self.assertEqual(stream_told(EXAMPLE), before)


if __name__ == "__main__":
    unittest.main()
