"""Streams: point [14]."""

import itertools
import random
import unittest

from narrowingbits.coefs import coefs_of, picture_of
from narrowingbits.errors import BadBits, BadField, BadGrid, Outside, TooFew, Unlike
from narrowingbits.lines import code_line, states
from narrowingbits.orders import ORDERS, lines_of, pieces_of
from narrowingbits.pictures import Picture
from narrowingbits.settings import Setting
from narrowingbits.streams import Stream, code, is_layered, is_right, is_whole, stream_states

from picture_reference import changed, coded_picture, piece_table, some_settings, spoilt

PIECE = [0, 0, 1, 1, 1, 1]
MOST = 2 ** 20
TWO_CELLS = Setting((0, 2, 0, 1), 0, 1, 0, "X", 3, (9,), "LBTC")
NO_BITS = (2, -1, "0", None, 1.5, [0])


def three_layers(order="CTBL"):
    """A line of one cell and one without cells, in three layers each."""
    return Setting((1, 2, 0, 1), 0, 1, 0, "X", 3, (3, 3, 3), order)


class StreamTest(unittest.TestCase):

    def test_attributes(self):
        stream = Stream(TWO_CELLS, [[1, 0], []])
        self.assertIs(stream.setting, TWO_CELLS)
        self.assertEqual(stream.pieces, [[1, 0], []])
        self.assertEqual(Stream(pieces=[[], [1]], setting=TWO_CELLS).pieces, [[], [1]])

    def test_things_that_are_no_bits(self):
        for thing in NO_BITS:
            for pieces in ([[thing], []], [[], [0, 1, thing]], [[thing]], [[], [], [1, thing]],
                           [[0] * (MOST + 1), [thing]], [[0] * (MOST + 1), [], [thing]]):
                with self.assertRaises(BadBits):
                    Stream(TWO_CELLS, pieces)

    def test_other_numbers_of_pieces(self):
        for pieces in ([], [[]], [[], [], []], [[0] * (MOST + 1)], [PIECE] * 3):
            with self.assertRaises(BadGrid):
                Stream(TWO_CELLS, pieces)
        for setting in some_settings():
            many = len(pieces_of(setting))
            self.assertEqual(Stream(setting, [[]] * many).pieces, [[]] * many)
            for other in (many - 1, many + 1):
                with self.assertRaises(BadGrid):
                    Stream(setting, [[]] * other)

    def test_lengths(self):
        stream = Stream(TWO_CELLS, [[1] * MOST, [0]])
        self.assertEqual([len(piece) for piece in stream], [MOST, 1])
        for pieces in ([[1] * (MOST + 1), []], [[], [0] * (MOST + 1)]):
            with self.assertRaises(BadField) as caught:
                Stream(TWO_CELLS, pieces)
            self.assertEqual(caught.exception.name, "length")

    def test_for_loops(self):
        stream = Stream(TWO_CELLS, [[1, 0], []])
        told = []
        for piece in stream:
            self.assertIsInstance(piece, tuple)
            told.append(piece)
        self.assertEqual(told, [(1, 0), ()])
        self.assertEqual(list(stream), told)
        both = [(one, other) for one in stream for other in stream]
        self.assertEqual(both, list(itertools.product(told, told)))
        one, other = iter(stream), iter(stream)
        self.assertEqual([next(one), next(other), next(other), next(one)], [(1, 0), (1, 0), (), ()])

    def test_what_is_handed_in_or_out_may_be_changed(self):
        pieces = [[1, 0], []]
        stream = Stream(TWO_CELLS, pieces)
        self.assertEqual(pieces, [[1, 0], []])
        pieces[0].append(1)
        pieces[1] = [0]
        stream.pieces[0].append(1)
        stream.pieces.append([1])
        self.assertEqual(stream.pieces, [[1, 0], []])
        self.assertEqual(list(stream), [(1, 0), ()])


class CodeTest(unittest.TestCase):

    def test_the_example_of_point_13(self):
        stream = code(Picture((0, 2, 0, 1), [[[5, 2]]]), TWO_CELLS)
        self.assertIsInstance(stream, Stream)
        self.assertIs(stream.setting, TWO_CELLS)
        self.assertEqual(stream.pieces, [PIECE, PIECE])

    def test_the_exact_pieces_in_piece_order(self):
        for setting in some_settings():
            for order in ORDERS[::5]:
                setting = changed(setting, order=order)
                picture = coded_picture(setting, 5)
                expected = {}
                for (c, j, i, b, rect), rows in zip(lines_of(setting), coefs_of(picture, setting)):
                    for l, piece in enumerate(code_line(rect, setting.planes, setting.layers, rows)):
                        expected[c, j, i, b, l] = piece
                self.assertEqual(code(picture, setting).pieces, [expected[key] for key in pieces_of(setting)])

    def test_some_layers(self):
        for setting in some_settings():
            picture = coded_picture(setting, 2)
            whole = code(picture, setting)
            self.assertEqual(code(picture, setting, layers=None).pieces, whole.pieces)
            for many in range(len(setting.layers) + 1):
                expected = [piece if key[4] < many else [] for key, piece in piece_table(whole).items()]
                told = code(layers=many, setting=setting, picture=picture)
                self.assertEqual(told.pieces, expected)
                self.assertTrue(is_layered(told))

    def test_errors(self):
        good = Picture((0, 2, 0, 1), [[[5, 2]]])
        great = Picture((0, 2, 0, 1), [[[99, 0]]])
        others = [Picture((1, 3, 0, 1), [[[99, 2]]]), Picture((0, 2, 0, 1), [[[99, 2]]] * 3)]
        for layers in (None, 0, 1, 2, -1):
            for other in others:
                with self.assertRaises(Unlike):
                    code(other, TWO_CELLS, layers=layers)
        for layers in (-1, 2, 10 ** 9):
            for picture in (good, great):
                with self.assertRaises(Outside):
                    code(picture, TWO_CELLS, layers=layers)
        for layers in (None, 0, 1):
            with self.assertRaises(TooFew) as caught:
                code(great, TWO_CELLS, layers=layers)
            self.assertEqual(caught.exception.planes, 3)

    def test_too_few_planes_for_each_coef(self):
        for setting in some_settings(planes=4, layers=((12,), (2, 5, 5))):
            # In one tile's one channel a number that fits, and one that does not by 1.
            for place, (line, number) in itertools.product((0, -1), ((15, 15), (16, 0), (-15, 15), (-16, 0))):
                rows = coefs_of(coded_picture(setting, 1), setting)
                filled = [at for at, row in enumerate(rows) if row != []]
                rows[filled[place]][0][0] = line
                picture = picture_of(rows, setting)
                for layers in (None, 0, 1):
                    if number == 0:
                        with self.assertRaises(TooFew) as caught:
                            code(picture, setting, layers=layers)
                        self.assertEqual(caught.exception.planes, 4)
                    else:
                        self.assertIsInstance(code(picture, setting, layers=layers), Stream)

    def test_layers_only_by_name(self):
        with self.assertRaises(TypeError):
            code(Picture((0, 2, 0, 1), [[[5, 2]]]), TWO_CELLS, 1)


class StatesTest(unittest.TestCase):

    def judged(self, setting, pieces):
        stream = Stream(setting, pieces)
        return (stream_states(stream), is_right(stream), is_whole(stream), is_layered(stream))

    def test_exact(self):
        self.assertEqual(self.judged(TWO_CELLS, [PIECE, PIECE]), (["exact", "exact"], True, True, True))

    def test_over(self):
        for piece in (PIECE + [0], PIECE + [1, 1, 1]):
            self.assertEqual(self.judged(TWO_CELLS, [PIECE, piece]), (["exact", "over"], False, False, False))
            self.assertEqual(self.judged(TWO_CELLS, [piece, PIECE]), (["over", "exact"], False, False, False))

    def test_short(self):
        for length in range(6):
            expected = (["short", "exact"], True, False, length == 0)
            self.assertEqual(self.judged(TWO_CELLS, [PIECE[:length], PIECE]), expected)

    def test_behind_and_lines_without_letters(self):
        # The line of one cell with 0 has the pieces 00, 0, 0; that without cells has only [].
        good = [[0, 0], [0], [0]]
        for pieces, states_told, right, whole, layered in (
                ([[0, 0], [0], [0]], ["exact", "exact", "exact"], True, True, True),
                ([[0, 0], [0], []], ["exact", "exact", "short"], True, False, True),
                ([[0, 0], [], []], ["exact", "short", "behind"], True, False, True),
                ([[], [], []], ["short", "behind", "behind"], True, False, True),
                ([[0], [], []], ["short", "behind", "behind"], True, False, False),
                ([[0, 0], [], [0]], ["exact", "short", "behind"], False, False, False),
                ([[0], [0], [0]], ["short", "behind", "behind"], False, False, False),
                ([[], [0], []], ["short", "behind", "behind"], False, False, False),
                ([[0, 0, 1], [0], []], ["over", "exact", "short"], False, False, False)):
            told = self.judged(three_layers(), pieces + [[], [], []])
            self.assertEqual(told, (states_told + ["exact"] * 3, right, whole, layered), pieces)
            told = self.judged(three_layers(), good + [[], [1], []])
            self.assertEqual(told, (["exact"] * 4 + ["over", "exact"], False, False, False))

    def test_in_piece_order(self):
        source = random.Random(4)
        for setting in some_settings():
            for order in ORDERS[::3]:
                setting = changed(setting, order=order)
                stream = spoilt(code(coded_picture(setting, 7), setting), source.randint(0, 10 ** 6))
                table = piece_table(stream)
                expected = {}
                for c, j, i, b, rect in lines_of(setting):
                    layers = range(len(setting.layers))
                    found = states(rect, setting.planes, setting.layers, [table[c, j, i, b, l] for l in layers])
                    expected.update({(c, j, i, b, l): found[l] for l in layers})
                told = stream_states(stream)
                self.assertEqual(told, [expected[key] for key in pieces_of(setting)])
                self.judge_by_states(stream, told)

    def judge_by_states(self, stream, told):
        named = list(zip(told, stream.pieces))
        right = "over" not in told and all(piece == [] for state, piece in named if state == "behind")
        self.assertIs(is_right(stream), right)
        self.assertIs(is_whole(stream), all(state == "exact" for state in told))
        layered = right and all(piece == [] for state, piece in named if state == "short")
        self.assertIs(is_layered(stream), layered)

    def test_what_code_writes(self):
        for setting in some_settings():
            stream = code(coded_picture(setting, 3), setting)
            self.assertEqual(stream_states(stream), ["exact"] * len(stream.pieces))
            self.assertEqual((is_right(stream), is_whole(stream), is_layered(stream)), (True, True, True))
            empty = code(coded_picture(setting, 3), setting, layers=0)
            self.assertEqual((is_right(empty), is_whole(empty), is_layered(empty)), (True, False, True))

    def test_new_at_each_call(self):
        stream = Stream(TWO_CELLS, [PIECE, []])
        stream_states(stream).append("over")
        self.assertEqual(stream_states(stream), ["exact", "short"])
        self.assertEqual(stream.pieces, [PIECE, []])


if __name__ == "__main__":
    unittest.main()
