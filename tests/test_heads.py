"""Heads, indexes, payloads: point [13]."""

import itertools
import unittest

from narrowingbits.errors import BadBits, BadField, Over, TooMany
from narrowingbits.heads import head_bits, payload, read_stream, stream_bits
from narrowingbits.orders import ORDERS, pieces_of
from narrowingbits.pictures import Picture
from narrowingbits.settings import Setting
from narrowingbits.streams import Stream, code

from head_reference import (FAR, bits_of_stream, count_code, head_of, index_of, joined, parts_of, too_many,
                            wrong_beginnings)
from picture_reference import changed, coded_picture, some_settings, spoilt, stream_told

TWO_CELLS = Setting((0, 2, 0, 1), 0, 1, 0, "X", 3, (9,), "LBTC")
HEAD = "10110010 1 010 1 1 1 010 1 010 0 011 1 0001001 0001110"
INDEX = "00111 00111"
PAYLOAD = "001111 001111"
EXAMPLE = Stream(TWO_CELLS, [[0, 0, 1, 1, 1, 1]] * 2)


def bits_of(text):
    return [int(digit) for digit in text.replace(" ", "")]


def far_settings():
    """Settings at the ends of their fields."""
    for x0, width in ((FAR - 32, 32), (-FAR, 1), (FAR - 1, 1), (-FAR, 32)):
        yield Setting((x0, x0 + width, -x0 - 1, -x0), 0, 5, 5, "XYXYXYXYXY", 20, (60,), "TLCB")
        yield Setting((-x0 - 1, -x0, x0, x0 + width), 2, 5, 0, "XXXXX", 1, (1, 1, 1), "BCLT")
    yield Setting((0, 1, 0, 1), 1, 0, 0, "", 20, (55, 1, 1, 1, 1, 1), "CBLT")


def some_streams():
    for number, setting in enumerate(some_settings()):
        stream = code(coded_picture(setting, number), setting)
        yield stream
        yield code(coded_picture(setting, number), setting, layers=1)
        yield spoilt(stream, number)


class WriteTest(unittest.TestCase):

    def test_the_example(self):
        stream = code(Picture((0, 2, 0, 1), [[[5, 2]]]), TWO_CELLS)
        self.assertEqual(head_bits(TWO_CELLS), bits_of(HEAD))
        self.assertEqual(payload(stream), bits_of(PAYLOAD))
        self.assertEqual(stream_bits(stream), bits_of(HEAD + INDEX + PAYLOAD))

    def test_by_the_words_of_the_point(self):
        for setting in itertools.chain(some_settings(), far_settings()):
            for order in ORDERS[::4]:
                self.assertEqual(head_bits(changed(setting, order=order)), head_of(changed(setting, order=order)))
        for stream in some_streams():
            self.assertEqual(stream_bits(stream), bits_of_stream(stream))
            self.assertEqual(payload(stream), [bit for piece in stream.pieces for bit in piece])

    def test_all_orders(self):
        for number, order in enumerate(ORDERS):
            self.assertEqual(head_bits(changed(TWO_CELLS, order=order)), bits_of(HEAD[:-7]) + count_code(number))

    def test_names_of_arguments_and_new_at_each_call(self):
        for call, words, expected in ((head_bits, {"setting": TWO_CELLS}, HEAD),
                                      (payload, {"stream": EXAMPLE}, PAYLOAD),
                                      (stream_bits, {"stream": EXAMPLE}, HEAD + INDEX + PAYLOAD)):
            call(**words).append(1)
            self.assertEqual(call(**words), bits_of(expected))
        self.assertEqual(EXAMPLE.pieces, [[0, 0, 1, 1, 1, 1]] * 2)

    def test_an_empty_payload(self):
        stream = Stream(TWO_CELLS, [[], []])
        self.assertEqual(payload(stream), [])
        self.assertEqual(stream_bits(stream), bits_of(HEAD + "11"))


class ReadTest(unittest.TestCase):

    def test_what_is_written_is_read(self):
        for stream in some_streams():
            told = read_stream(stream_bits(stream))
            self.assertIsInstance(told, Stream)
            self.assertEqual(stream_told(told), stream_told(stream))
        for setting in far_settings():
            stream = Stream(setting, [[1, 0, 1]] * len(pieces_of(setting)))
            self.assertEqual(stream_told(read_stream(bits_of_stream(stream))), stream_told(stream))

    def test_long_pieces(self):
        head = joined(parts_of())
        long = [1, 0] * 2 ** 19
        told = read_stream(bits=head + index_of([2 ** 20, 1]) + long + [1])
        self.assertEqual(told.pieces, [long, [1]])

    def test_many_pieces(self):
        setting = Setting((0, 20, 0, 20), 0, 0, 0, "", 4, (4, 3, 2, 2, 1), "TCBL")
        stream = Stream(setting, [[1] * (number % 5) for number in range(2000)])
        self.assertEqual(stream_told(read_stream(bits_of_stream(stream))), stream_told(stream))

    def test_what_is_handed_in_is_not_changed(self):
        bits = stream_bits(EXAMPLE)
        told = read_stream(bits)
        self.assertEqual(bits, bits_of(HEAD + INDEX + PAYLOAD))
        bits.clear()
        self.assertEqual(told.pieces, EXAMPLE.pieces)

    def test_wrong_things_at_their_last_bit_and_not_before(self):
        for name, bits in wrong_beginnings():
            for behind in ([], [0], [1], [1] * 60, [0] * 60):
                with self.assertRaises(BadField, msg=(name, bits)) as caught:
                    read_stream(bits + behind)
                self.assertEqual(caught.exception.name, name, bits)
            with self.assertRaises(BadBits, msg=(name, bits)):
                read_stream(bits[:-1])

    def test_the_mark_with_eight_bits(self):
        for bits in ([], [0], [0] * 7, [1, 1, 1]):
            with self.assertRaises(BadBits):
                read_stream(bits)

    def test_too_many_pieces_behind_the_order(self):
        bits = too_many()
        with self.assertRaises(BadBits):
            read_stream(bits[:-1])
        for behind in ([], [0] * 41, [1] * 3000):
            with self.assertRaises(TooMany) as caught:
                read_stream(bits + behind)
            self.assertEqual(caught.exception.most, 2000)
        self.wrong_order(bits)

    def wrong_order(self, bits):
        many = len(count_code(13))
        with self.assertRaises(BadField) as caught:
            read_stream(bits[:-many] + count_code(24))
        self.assertEqual(caught.exception.name, "order")

    def test_the_first_wrong_thing(self):
        for things, name in (({"x0": FAR + 1, "width": 40, "mode": 9}, "x0"),
                             ({"width": 40, "y0": FAR + 1}, "width"), ({"y0": FAR + 1, "height": 77}, "y0"),
                             ({"height": 77, "mode": 3}, "height"), ({"mode": 3, "tx": 9}, "mode"),
                             ({"tx": 9, "ty": 9}, "tx"), ({"ty": 9, "letters": 11}, "ty"),
                             ({"letters": 11, "planes": 30}, "word"), ({"word": "XX", "planes": 30}, "word"),
                             ({"planes": 30, "many": 7}, "planes"), ({"many": 7, "order": 24}, "layers"),
                             ({"layers": (1,), "order": 24}, "layers"), ({"order": 24}, "order")):
            with self.assertRaises(BadField, msg=things) as caught:
                read_stream(joined(parts_of(**things)) + [0] * 50)
            self.assertEqual(caught.exception.name, name)

    def test_bits_that_lack(self):
        bits = stream_bits(EXAMPLE)
        for length in range(len(bits)):
            with self.assertRaises(BadBits):
                read_stream(bits[:length])

    def test_bits_too_many(self):
        for stream in (EXAMPLE, Stream(TWO_CELLS, [[], []]), Stream(TWO_CELLS, [[1], []])):
            for behind in ([0], [1], [0] * 50, [1] * 3):
                with self.assertRaises(Over):
                    read_stream(stream_bits(stream) + behind)

    def test_things_that_are_no_bits_are_ahead_of_all_others(self):
        for thing in (2, -1, "0", None, [1]):
            for bits in ([thing], [0] * 8 + [thing], stream_bits(EXAMPLE) + [thing], stream_bits(EXAMPLE) + [0, thing],
                         [thing] + stream_bits(EXAMPLE), joined(parts_of(order=24)) + [thing], too_many() + [thing]):
                with self.assertRaises(BadBits):
                    read_stream(bits)


if __name__ == "__main__":
    unittest.main()
