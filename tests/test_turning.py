"""Turning and lightening: points [18] and [22]."""

import random
import unittest

from narrowingbits.coefs import coefs_of, picture_of
from narrowingbits.cutting import cut
from narrowingbits.errors import BadField, Cut, TooFew
from narrowingbits.orders import ORDERS, lines_of, pieces_of, tiles_of
from narrowingbits.pictures import Picture
from narrowingbits.reading import box_of
from narrowingbits.settings import Setting
from narrowingbits.streams import Stream, code, is_layered, is_right
from narrowingbits.turning import lighten, mirror, swap, turned

from deed_reference import (bit_count, broken_streams, layered_stream, lighter, rows_by_line, settings_in_many_orders,
                            told_layers, turned_picture, turned_rows, turned_setting)
from picture_reference import (changed, coded_picture, fields_of, filled_rows, piece_table, some_settings, spoilt,
                               stream_told, told)

TWO_CELLS = Setting((0, 2, 0, 1), 0, 1, 0, "X", 3, (9,), "LBTC")
EXAMPLE = code(Picture((0, 2, 0, 1), [[[5, 2]]]), TWO_CELLS)
WORDS = ("", "M", "S", "SM", "MS", "MM", "SS", "MSM", "SMS", "MSMS", "SMSM", "SMSMS", "MSMSMS", "MSMSMSM", "MSSM",
         "MSMSMSMS", "SMSMSMSM", "MSMSMSMSM", "SSSMMMS", "MMSMSMSM", "SSMSMSMS", "MMMSSSMSMSM")
SAME = ("", "MM", "SS", "MSMSMSMS", "SMSMSMSM", "MSSM", "SMMS", "MSMSMSMS" * 40, "MM" * 300 + "SS" * 300)


def layered_streams(setting, number):
    """Streams that are told to all layers, to fewer ones, and to other ones in each line."""
    picture = coded_picture(setting, number)
    found = [code(picture, setting, layers=m) for m in range(len(setting.layers) + 1)]
    return found + [layered_stream(setting, number * 100 + seed) for seed in range(4)]


class TurningTest(unittest.TestCase):

    def assert_same(self, stream, expected):
        self.assertIsInstance(stream, Stream)
        self.assertEqual(stream_told(stream), stream_told(expected))

    def test_the_examples(self):
        told_stream = mirror(EXAMPLE)
        expected = Setting((-2, 0, 0, 1), 0, 1, 0, "X", 3, (9,), "LBTC")
        self.assert_same(told_stream, code(Picture((-2, 0, 0, 1), [[[2, 5]]]), expected))
        self.assertEqual(box_of(told_stream).stretches(), [[[(3, 3)]], [[(-3, -3)]]])
        picture = Picture((1, 3, -1, 1), [[[1, 2], [3, 4]]])
        stream = code(picture, Setting(picture.rect, 0, 1, 0, "X", 4, (12,), "BCLT"))
        nearest = box_of(turned(stream, "SM")).nearest()
        # (x, y) goes to (-1 - y, x): (1, -1) to (0, 1), (2, 0) to (-1, 2).
        self.assertEqual(told(nearest), ((-1, 1, 1, 3), [[[3, 1], [4, 2]]]))

    def test_where_cells_and_tiles_go(self):
        for setting in some_settings():
            for word in ("M", "S", "SM", "MSM"):
                self.assertEqual(turned_setting(setting, word).rect,
                                 turned_picture(coded_picture(setting, 1), word).rect)
            stream = code(coded_picture(setting, 1), setting)
            self.assertEqual(tiles_of(mirror(stream).setting), sorted((j, -1 - i) for j, i in tiles_of(setting)))
            self.assertEqual(tiles_of(swap(stream).setting), sorted((i, j) for j, i in tiles_of(setting)))

    def test_what_code_writes(self):
        for number, setting in enumerate(settings_in_many_orders()):
            picture = coded_picture(setting, number)
            stream = code(picture, setting)
            for deed, word in ((mirror, "M"), (swap, "S")):
                expected = code(turned_picture(picture, word), turned_setting(setting, word))
                self.assert_same(deed(stream), expected)
                self.assert_same(turned(stream, word), expected)

    def test_what_code_writes_of_some_layers(self):
        for number, setting in enumerate(some_settings()):
            picture = coded_picture(setting, number)
            for m in range(len(setting.layers) + 1):
                stream = code(picture, setting, layers=m)
                for deed, word in ((mirror, "M"), (swap, "S")):
                    self.assert_same(deed(stream), code(turned_picture(picture, word), turned_setting(setting, word),
                                                        layers=m))

    def test_words(self):
        for number, setting in enumerate(some_settings()):
            picture = coded_picture(setting, number)
            for m in (1, len(setting.layers)):
                stream = code(picture, setting, layers=m)
                for word in WORDS:
                    expected = code(turned_picture(picture, word), turned_setting(setting, word), layers=m)
                    self.assert_same(turned(stream=stream, word=word), expected)

    def test_words_that_move_nothing(self):
        for number, setting in enumerate(some_settings()):
            for stream in layered_streams(setting, number):
                for word in SAME:
                    told_stream = turned(stream, word)
                    self.assertIsNot(told_stream, stream)
                    self.assert_same(told_stream, stream)

    def test_long_words(self):
        source = random.Random(4)
        for number, setting in enumerate(some_settings()[2:6]):
            stream = layered_stream(setting, number)
            for length in (5, 9, 13, 30):
                word = "".join(source.choice("MS") for _ in range(length))
                expected = stream
                for letter in word:
                    expected = mirror(expected) if letter == "M" else swap(expected)
                self.assert_same(turned(stream, word), expected)
        self.assert_same(turned(EXAMPLE, "MS" * 100000 + "M"), mirror(EXAMPLE))
        self.assert_same(turned(EXAMPLE, "S" * 99999), swap(EXAMPLE))

    def test_lines_that_are_told_to_some_layers(self):
        """By the words of the point: numbers nearest 0, moved and coded anew, as many layers kept."""
        for number, setting in enumerate(some_settings()):
            for stream in layered_streams(setting, number):
                self.assertTrue(is_layered(stream))
                layers = told_layers(stream)
                for letter in "MS":
                    picture = turned_picture(box_of(stream).nearest(), letter)
                    moved = turned_setting(setting, letter)
                    pieces = []
                    for (c, j, i, b, l), piece in piece_table(code(picture, moved)).items():
                        old = (c, j, -1 - i, b) if letter == "M" else (c, i, j, b)
                        pieces.append(piece if l < layers[old] else [])
                    self.assert_same(turned(stream, letter), Stream(moved, pieces))

    def test_boxes_of_layered_streams(self):
        for number, setting in enumerate(some_settings()):
            for stream in layered_streams(setting, number):
                rows = rows_by_line(stream)
                for deed, letter in ((mirror, "M"), (swap, "S")):
                    self.assertEqual(rows_by_line(deed(stream)), turned_rows(setting, rows, letter))
                back = turned(stream, "SMSMSM")
                self.assertTrue(is_layered(back))
                self.assertEqual(rows_by_line(turned(back, "SM")), rows)

    def test_some_line_keeps_some_layers(self):
        """So that the tests above are not about nothing or all."""
        found = {}
        for number, setting in enumerate(some_settings()):
            for stream in layered_streams(setting, number):
                for many in told_layers(stream).values():
                    found[many, len(setting.layers)] = True
        # Where the first layer ends ahead of the first pass with cells, it is always told.
        for least, most in ((1, 2), (0, 3), (1, 6)):
            self.assertEqual([many for many in range(most + 1) if (many, most) in found], list(range(least, most + 1)))

    def test_cut(self):
        layers = changed(TWO_CELLS, layers=(3, 3, 3), order="TCBL")
        picture = Picture((0, 2, 0, 1), [[[5, 2]]])
        pieces = code(picture, layers).pieces
        wrong = [cut(EXAMPLE, 3), cut(EXAMPLE, 11), Stream(TWO_CELLS, [[0, 0, 1, 1, 1, 1, 0], []]),
                 Stream(TWO_CELLS, [[], [1, 0]]), Stream(layers, [[]] + pieces[1:]),
                 Stream(layers, pieces[:1] + [[]] + pieces[2:]), Stream(layers, [pieces[0] + [0]] + pieces[1:])]
        for stream in wrong:
            self.assertFalse(is_layered(stream))
            for deed in (mirror, swap, lambda one: turned(one, ""), lambda one: turned(one, "M"),
                         lambda one: turned(one, "X"), lambda one: turned(one, "MSMSMSMS")):
                with self.assertRaises(Cut):
                    deed(stream)
        found = {False: 0, True: 0}
        for number, setting in enumerate(some_settings()):
            for stream in broken_streams(setting, number):
                right = is_layered(stream)
                found[right] += 1
                for word in ("", "M", "no", "SMS"):
                    if not right:
                        with self.assertRaises(Cut):
                            turned(stream, word)
        self.assertGreater(found[False], 20)

    def test_no_motions(self):
        for word in ("m", "s", "X", "Y", "MSMX", " ", "M S", "-", "MM.", "XMM", "MSMSMSMS?"):
            with self.assertRaises(BadField) as caught:
                turned(EXAMPLE, word)
            self.assertEqual(caught.exception.name, "motion")

    def test_rims_at_the_limits(self):
        far = 2 ** 30
        for x0, y0 in ((far - 2, -far), (-far, far - 1), (-far, 0)):
            setting = changed(TWO_CELLS, rect=(x0, x0 + 2, y0, y0 + 1))
            picture = coded_picture(setting, 3)
            for word in WORDS[1:8]:
                self.assert_same(turned(code(picture, setting), word),
                                 code(turned_picture(picture, word), turned_setting(setting, word)))


def coarse_lines(setting):
    """The lines to which lightening adds."""
    return [line[:4] for line in lines_of(setting) if line[3] == 0 and (line[0] == 0 or setting.mode != 2)]


def fitting(setting, seed, most):
    """A picture that fits the setting, whose coefs are at most so great."""
    source = random.Random(seed)
    return picture_of(filled_rows(setting, lambda: source.randint(-most, most)), setting)


class LightenTest(unittest.TestCase):

    def test_the_examples(self):
        self.assertEqual(stream_told(lighten(EXAMPLE, 4)), stream_told(code(Picture((0, 2, 0, 1), [[[9, 6]]]), TWO_CELLS)))
        with self.assertRaises(TooFew) as caught:
            lighten(EXAMPLE, 5)
        self.assertEqual(caught.exception.planes, 3)
        self.assertEqual(stream_told(lighten(EXAMPLE, -10)),
                         stream_told(code(Picture((0, 2, 0, 1), [[[-5, -8]]]), TWO_CELLS)))
        with self.assertRaises(TooFew):
            lighten(EXAMPLE, -11)

    def test_what_code_writes(self):
        for number, setting in enumerate(settings_in_many_orders()):
            picture = fitting(setting, number, 4)
            stream = code(picture, setting)
            for c in (0, 1, -1, 3, -3):
                told_stream = lighten(c=c, stream=stream)
                self.assertIsInstance(told_stream, Stream)
                self.assertEqual(stream_told(told_stream), stream_told(code(lighter(picture, c), setting)))

    def test_other_lines_may_be_as_they_like(self):
        for number, setting in enumerate(some_settings()):
            picture = fitting(setting, number, 4)
            good = piece_table(code(picture, setting))
            lines = coarse_lines(setting)
            for seed in range(4):
                other = piece_table(spoilt(Stream(setting, [[]] * len(good)) if seed == 3 else code(picture, setting),
                                           seed))
                pieces = {key: good[key] if key[:4] in lines else other[key] for key in good}
                stream = Stream(setting, list(pieces.values()))
                for c in (2, -3):
                    lightened = piece_table(code(lighter(picture, c), setting))
                    expected = {key: lightened[key] if key[:4] in lines else other[key] for key in good}
                    told_stream = lighten(stream, c)
                    self.assertEqual(stream_told(told_stream), (fields_of(setting), list(expected.values())))
                    rows = rows_by_line(stream)
                    for line in lines:
                        rows[line] = [[(low + c, high + c) for low, high in row] for row in rows[line]]
                    self.assertEqual(rows_by_line(told_stream), rows)

    def test_colours(self):
        """In mode 2 only the channel Y is asked and changed."""
        for setting in some_settings():
            if setting.mode == 2:
                table = piece_table(code(fitting(setting, 6, 4), setting))
                pieces = [piece if key[0] == 0 else [1, 0, 1] for key, piece in table.items()]
                told_stream = lighten(Stream(setting, pieces), 2)
                lightened = piece_table(code(lighter(fitting(setting, 6, 4), 2), setting))
                for key, piece in piece_table(told_stream).items():
                    self.assertEqual(piece, lightened[key] if key[0] == 0 else [1, 0, 1])
                for key in table:
                    if key[0] != 0 or key[3] != 0:
                        self.assertEqual(lightened[key], table[key])

    def test_cut(self):
        found = 0
        for number, setting in enumerate(settings_in_many_orders(8)):
            stream = code(fitting(setting, number, 4), setting)
            table = piece_table(stream)
            for line in [line[:4] for line in lines_of(setting)]:
                for l in range(len(setting.layers)):
                    key = line + (l,)
                    # A bit too many makes any piece "over".
                    pieces = [piece + [0] if key == other else piece for other, piece in table.items()]
                    if line in coarse_lines(setting):
                        found += 1
                        for c in (0, 1, 10 ** 9):
                            with self.assertRaises(Cut):
                                lighten(Stream(setting, pieces), c)
                    else:
                        self.assertIsInstance(lighten(Stream(setting, pieces), 0), Stream)
        self.assertGreater(found, 100)
        for n in range(6):
            with self.assertRaises(Cut):
                lighten(cut(EXAMPLE, n), 1)
        for n in range(6, 13):
            lighter_piece = code(Picture((0, 2, 0, 1), [[[6, 3]]]), TWO_CELLS).pieces[0]
            self.assertEqual(lighten(cut(EXAMPLE, n), 1).pieces, [lighter_piece, EXAMPLE.pieces[1][:n - 6]])

    def test_too_few(self):
        for number, setting in enumerate(some_settings()):
            picture = fitting(setting, number, 4)
            numbers = [number for line, rows in zip(lines_of(setting), coefs_of(picture, setting))
                       if line[:4] in coarse_lines(setting) for row in rows for number in row]
            most, least = 7 - max(numbers), -7 - min(numbers)
            for c in (most, least):
                self.assertEqual(stream_told(lighten(code(picture, setting), c)),
                                 stream_told(code(lighter(picture, c), setting)))
            for c in (most + 1, least - 1, 10 ** 30, -10 ** 30):
                with self.assertRaises(TooFew) as caught:
                    lighten(code(picture, setting), c)
                self.assertEqual(caught.exception.planes, 3)


class NothingChangedTest(unittest.TestCase):

    def test_streams_that_are_handed_in(self):
        for number, setting in enumerate(some_settings()):
            stream = code(fitting(setting, number, 3), changed(setting, order=ORDERS[number]))
            before = stream_told(stream)
            for deed in (mirror, swap, lambda one: turned(one, "SM"), lambda one: turned(one, ""),
                         lambda one: lighten(one, 1), lambda one: lighten(one, 0)):
                result = deed(stream)
                expected = stream_told(result)
                result.pieces[0].append(1)
                result.pieces.append([])
                self.assertEqual(len(result.pieces), len(pieces_of(setting)))
                self.assertEqual(stream_told(stream), before)
                self.assertEqual(stream_told(deed(stream)), expected)
                self.assertTrue(is_right(result))
            self.assertEqual(bit_count(stream), sum(len(piece) for piece in before[1]))


if __name__ == "__main__":
    unittest.main()
