"""Boxes that bits tell, and which bits are needed: points [0.3], [9], [13] and [14]."""

import itertools
import unittest

from narrowingbits.bounds import samples, widest
from narrowingbits.boxes import Box
from narrowingbits.coefs import coefs_of
from narrowingbits.cutting import cut
from narrowingbits.errors import BadBits, BadField, Outside, Over, TooMany
from narrowingbits.lines import read_line
from narrowingbits.orders import lines_of, pieces_of, tile_rect
from narrowingbits.pictures import Picture
from narrowingbits.reading import box_of, least_bits, needed, spent, told_box
from narrowingbits.settings import Setting
from narrowingbits.streams import Stream, code

from head_reference import bits_of_stream, count_code, head_of, index_of, joined, parts_of, too_many, wrong_beginnings
from picture_reference import (box_told, cells_of, changed, coded_picture, piece_table, some_settings, spoilt,
                               stream_told, table_of)

TWO_CELLS = Setting((0, 2, 0, 1), 0, 1, 0, "X", 3, (9,), "LBTC")
EXAMPLE = code(Picture((0, 2, 0, 1), [[[5, 2]]]), TWO_CELLS)
FRONT = 51


def box_by_lines(stream):
    """The setting and the rows of the box of a stream, line by line."""
    setting = stream.setting
    table = piece_table(stream)
    rows = []
    for c, j, i, b, rect in lines_of(setting):
        pieces = [table[c, j, i, b, l] for l in range(len(setting.layers))]
        rows.append(read_line(rect, setting.planes, setting.layers, pieces).stretches())
    return rows


def small_settings():
    return [setting for setting in some_settings(planes=2, layers=((6,), (1, 5), (2, 2, 2)))][:7]


def small_streams():
    """Streams of small settings: whole ones, some without some layers, spoilt ones."""
    for number, setting in enumerate(small_settings()):
        stream = code(coded_picture(setting, number), setting)
        yield stream
        yield code(coded_picture(setting, number), setting, layers=len(setting.layers) - 1)
        yield spoilt(stream, number)


def front_length(stream):
    return len(head_of(stream.setting) + index_of([len(piece) for piece in stream]))


def cut_pieces(stream, many):
    """The pieces of the first bits of a payload."""
    pieces = []
    for piece in stream.pieces:
        pieces.append(piece[:max(0, many)])
        many -= len(piece)
    return pieces


class BoxOfTest(unittest.TestCase):

    def test_what_the_pieces_of_each_line_tell(self):
        for number, setting in enumerate(some_settings()):
            stream = code(coded_picture(setting, number), setting)
            for told in (stream, spoilt(stream, number), spoilt(stream, number + 50),
                         code(coded_picture(setting, number), setting, layers=0)):
                box = box_of(told)
                self.assertIsInstance(box, Box)
                self.assertIs(box.setting, told.setting)
                self.assertEqual(box.stretches(), box_by_lines(told))

    def test_one_picture_of_what_code_writes(self):
        for number, setting in enumerate(some_settings()):
            picture = coded_picture(setting, number)
            box = box_of(stream=code(picture, setting))
            self.assertEqual(box.members(), 1)
            self.assertEqual(box.nearest().channels, picture.channels)
            for layers in range(len(setting.layers)):
                self.assertIn(picture, box_of(code(picture, setting, layers=layers)))

    def test_no_bits(self):
        box = box_of(Stream(TWO_CELLS, [[], []]))
        self.assertEqual(box.stretches(), [[[(-7, 7)]], [[(-7, 7)]]])


class ToldBoxTest(unittest.TestCase):

    def test_the_example(self):
        bits = bits_of_stream(EXAMPLE)
        for length in range(FRONT):
            self.assertIsNone(told_box(bits[:length]))
        ends = [(-7, 7), (-7, 7), (-3, 3), (-3, 3), (-3, 3), (2, 3), (3, 3)]
        for length in range(13):
            expected = [[[ends[min(length, 6)]]], [[ends[max(length - 6, 0)]]]]
            self.assertEqual(told_box(bits[:FRONT + length]).stretches(), expected)

    def test_all_beginnings(self):
        for stream in small_streams():
            bits = bits_of_stream(stream)
            front = front_length(stream)
            before = None
            for length in range(len(bits) + 1):
                box = told_box(bits[:length])
                if length < front:
                    self.assertIsNone(box)
                    continue
                beginning = Stream(stream.setting, cut_pieces(stream, length - front))
                self.assertEqual(box_told(box), box_told(box_of(beginning)))
                self.assertTrue(before is None or box.inside(before))
                before = box

    def test_one_picture_at_the_last_bit_and_not_before(self):
        for number, setting in enumerate(small_settings()):
            picture = coded_picture(setting, number)
            bits = bits_of_stream(code(picture, setting))
            for length in range(len(bits) + 1):
                box = told_box(bits=bits[:length])
                if box is not None:
                    self.assertIn(picture, box)
                    self.assertEqual(box.members() == 1, length == len(bits))

    def test_wrong_things_at_their_last_bit_and_not_before(self):
        for name, bits in wrong_beginnings():
            with self.assertRaises(BadField, msg=(name, bits)) as caught:
                told_box(bits)
            self.assertEqual(caught.exception.name, name)
            self.assertIsNone(told_box(bits[:-1]))
        with self.assertRaises(TooMany) as caught:
            told_box(too_many())
        self.assertEqual(caught.exception.most, 2000)
        self.assertIsNone(told_box(too_many()[:-1]))

    def test_bits_too_many(self):
        for stream in (EXAMPLE, Stream(TWO_CELLS, [[], []])):
            for behind in ([0], [1], [1] * 70):
                with self.assertRaises(Over):
                    told_box(bits_of_stream(stream) + behind)

    def test_things_that_are_no_bits_come_first(self):
        bits = bits_of_stream(EXAMPLE)
        for thing in (2, -1, "1", None):
            for wrong in ([thing], bits[:30] + [thing], bits + [thing], [0] * 8 + [thing], too_many() + [thing],
                          joined(parts_of(mode=3)) + [1, thing]):
                with self.assertRaises(BadBits):
                    told_box(wrong)

    def test_what_is_handed_in_is_not_changed(self):
        bits = bits_of_stream(EXAMPLE)
        box = told_box(bits)
        self.assertEqual(bits, bits_of_stream(EXAMPLE))
        bits.clear()
        self.assertEqual(box.stretches(), [[[(3, 3)]], [[(3, 3)]]])


class NeededTest(unittest.TestCase):

    def test_the_example(self):
        self.assertEqual(needed(EXAMPLE, (0, 1, 0, 1)), [(0, 51), (51, 57), (57, 63)])
        self.assertEqual(needed(EXAMPLE, (0, 1, 0, 1), drop=1), [(0, 51), (51, 57)])
        self.assertEqual(needed(EXAMPLE, (0, 1, 0, 1), layers=0), [(0, 51)])
        self.assertEqual(needed(EXAMPLE, (0, 1, 0, 1), drop=0, layers=1), [(0, 51), (51, 57), (57, 63)])
        self.assertEqual(needed(Stream(TWO_CELLS, [[], [1]]), (1, 9, -5, 5)), [(0, 45), (45, 46)])

    def rects(self, setting):
        x0, x1, y0, y1 = setting.rect
        return [setting.rect, (x0 - 9, x1 + 9, y0 - 9, y1 + 9), (x0, x0 + 1, y0, y0 + 1), (x1 - 1, x1 + 5, y0, y1),
                (x0 - 3, x0 + 1, y1 - 1, y1 + 2), (x1 - 1, x1, y0, y1 + 1)]

    def expected(self, stream, rect, drop, layers):
        setting = stream.setting
        at = front_length(stream)
        found = [(0, at)]
        tiles = {(y // 2 ** setting.ty, x // 2 ** setting.tx) for x, y in set(cells_of(rect)) & set(cells_of(setting.rect))}
        for (_, j, i, b, l), piece in zip(pieces_of(setting), stream.pieces):
            if piece and (j, i) in tiles and b <= len(setting.word) - drop and l < layers:
                found.append((at, at + len(piece)))
            at += len(piece)
        return found

    def test_by_the_words_of_the_interface(self):
        for number, setting in enumerate(some_settings()):
            for stream in (code(coded_picture(setting, number), setting),
                           spoilt(code(coded_picture(setting, number), setting), number)):
                for rect in self.rects(setting):
                    most = len(setting.layers)
                    self.assertEqual(needed(stream, rect), self.expected(stream, rect, 0, most))
                    for drop, layers in itertools.product(range(len(setting.word) + 1), range(most + 1)):
                        told = needed(stream, rect, drop=drop, layers=layers)
                        self.assertEqual(told, self.expected(stream, rect, drop, layers))
                    self.assertEqual(needed(stream=stream, rect=rect, layers=None, drop=1 if setting.word else 0),
                                     self.expected(stream, rect, 1 if setting.word else 0, most))

    def test_flipping_the_other_bits(self):
        for number, setting in enumerate(some_settings()):
            stream = code(coded_picture(setting, number), setting)
            for rect in self.rects(setting):
                for drop, layers in itertools.product({0, len(setting.word)}, {1, len(setting.layers)}):
                    other = self.flipped(stream, needed(stream, rect, drop=drop, layers=layers))
                    self.assertEqual(self.asked(other, rect, drop, layers), self.asked(stream, rect, drop, layers))
                other = self.flipped(stream, needed(stream, rect))
                for rows, other_rows in zip(samples(box_of(stream)), samples(box_of(other))):
                    for x, y in cells_of(rect):
                        if (x, y) in cells_of(setting.rect):
                            at = (y - setting.rect[2], x - setting.rect[0])
                            self.assertEqual(rows[at[0]][at[1]], other_rows[at[0]][at[1]])

    def flipped(self, stream, spans):
        """The stream with all bits flipped but those of the spans."""
        bits = [1 - bit for bit in bits_of_stream(stream)]
        for begin, end in spans:
            bits[begin:end] = bits_of_stream(stream)[begin:end]
        at = front_length(stream)
        pieces = []
        for piece in stream:
            pieces.append(bits[at:at + len(piece)])
            at += len(piece)
        return Stream(stream.setting, pieces)

    def asked(self, stream, rect, drop, layers):
        """The stretches that the layers tell in the bands of the tiles of the rect."""
        setting = stream.setting
        kept = [piece if key[4] < layers else [] for key, piece in piece_table(stream).items()]
        table = table_of(setting, box_of(Stream(setting, kept)).stretches())
        return {place: stretch for place, stretch in table.items() if place[3] <= len(setting.word) - drop and
                any(cell in cells_of(rect) for cell in cells_of(tile_rect(setting, place[1], place[2])))}

    def test_outside(self):
        for setting in some_settings():
            stream = Stream(setting, [[]] * len(pieces_of(setting)))
            x0, x1, y0, y1 = setting.rect
            for rect in ((x1, x1 + 9, y0, y1), (x0 - 9, x0, y0, y1), (x0, x1, y1, y1 + 1), (x0, x1, y0 - 1, y0),
                         (x0, x0, y0, y1), (x0, x1, y0, y0), (x0 - 9, x1 + 9, y1 + 5, y1 + 9)):
                for drop, layers in ((0, None), (-1, 99)):
                    with self.assertRaises(Outside):
                        needed(stream, rect, drop=drop, layers=layers)
            for drop in (-1, len(setting.word) + 1, 99):
                with self.assertRaises(Outside):
                    needed(stream, setting.rect, drop=drop)
            for layers in (-1, len(setting.layers) + 1, 99):
                with self.assertRaises(Outside):
                    needed(stream, setting.rect, layers=layers)

    def test_only_by_name_and_new_at_each_call(self):
        with self.assertRaises(TypeError):
            needed(EXAMPLE, (0, 1, 0, 1), 1)
        needed(EXAMPLE, (0, 1, 0, 1)).append((1, 1))
        self.assertEqual(needed(EXAMPLE, (0, 1, 0, 1)), [(0, 51), (51, 57), (57, 63)])


class LeastBitsTest(unittest.TestCase):

    def test_against_all_cuts(self):
        for stream in small_streams():
            many = sum(len(piece) for piece in stream)
            widths = [widest(box_of(cut(stream, n))) for n in range(many + 1)]
            self.assertEqual(widths, sorted(widths, reverse=True))
            for w in sorted({0, 1, 10 ** 9, *widths, *[width - 1 for width in widths if width]}):
                expected = next((n for n in range(many + 1) if widths[n] <= w), None)
                self.assertEqual(least_bits(stream, w), expected)

    def test_the_example(self):
        # Band 0 known to be in (-7, 7), (-3, 3), (2, 3), 3 makes 14, 6, 1, 0; then band 1 in the same
        # stretches makes 7, 3, 1, 0 more.
        for w, expected in ((0, 12), (1, 11), (2, 11), (3, 8), (6, 8), (7, 6), (8, 5), (12, 5), (13, 2), (20, 2),
                            (21, 0), (22, 0)):
            self.assertEqual(least_bits(EXAMPLE, w), expected)

    def test_none(self):
        short = Stream(TWO_CELLS, [[0, 0, 1, 1, 1, 1], [0, 0]])
        self.assertIsNone(least_bits(short, 0))
        self.assertIsNone(least_bits(Stream(TWO_CELLS, [[], []]), 5))
        self.assertEqual(least_bits(Stream(TWO_CELLS, [[], []]), 99), 0)

    def test_outside(self):
        for w in (-1, -10 ** 30):
            with self.assertRaises(Outside):
                least_bits(EXAMPLE, w)
        self.assertEqual(least_bits(w=0, stream=EXAMPLE), 12)


class SpentTest(unittest.TestCase):

    def test_all_pairs(self):
        for number, setting in enumerate(some_settings()):
            stream = spoilt(code(coded_picture(setting, number), setting), number)
            expected = {}
            for l, b in itertools.product(range(len(setting.layers)), range(len(setting.word) + 1)):
                expected[l, b] = sum(len(piece) for key, piece in piece_table(stream).items() if key[3:] == (b, l))
            told = spent(stream)
            self.assertEqual(told, expected)
            self.assertEqual(list(told), sorted(expected))

    def test_nothing_is_spent(self):
        self.assertEqual(spent(stream=Stream(TWO_CELLS, [[], []])), {(0, 0): 0, (0, 1): 0})
        self.assertEqual(spent(EXAMPLE), {(0, 0): 6, (0, 1): 6})

    def test_new_at_each_call_and_nothing_is_changed(self):
        before = stream_told(EXAMPLE)
        spent(EXAMPLE).clear()
        self.assertEqual(spent(EXAMPLE), {(0, 0): 6, (0, 1): 6})
        least_bits(EXAMPLE, 3)
        self.assertEqual(stream_told(EXAMPLE), before)


if __name__ == "__main__":
    unittest.main()
