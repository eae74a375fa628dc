"""Texts of streams: points [3] and [31]."""

import unittest

from narrowingbits.errors import BadField, BadText, TooMany
from narrowingbits.heads import stream_bits
from narrowingbits.hexes import hex_of
from narrowingbits.orders import ORDERS
from narrowingbits.pictures import Picture
from narrowingbits.settings import Setting
from narrowingbits.streams import Stream, code
from narrowingbits.streamtexts import stream_of, text_of_stream

from head_reference import bits_of_stream, too_many, wrong_beginnings
from picture_reference import changed, coded_picture, some_settings, spoilt, stream_told
from text_reference import ODD_NUMBERS, odd_ways, rows_of_setting, with_row, with_word

TWO_CELLS = Setting((0, 2, 0, 1), 0, 1, 0, "X", 3, (9,), "LBTC")
EXAMPLE = code(Picture((0, 2, 0, 1), [[[5, 2]]]), TWO_CELLS)
BITS = stream_bits(EXAMPLE)


def some_streams():
    for number, setting in enumerate(some_settings()):
        setting = changed(setting, order=ORDERS[number * 2 + 1])
        yield code(coded_picture(setting, number), setting)
        yield spoilt(code(coded_picture(setting, number), setting), number)


class StreamTextTest(unittest.TestCase):

    def assert_row(self, row, text):
        with self.assertRaises(BadText, msg=repr(text)) as caught:
            stream_of(text)
        self.assertEqual(caught.exception.row, row, repr(text))

    def text(self, rows, bits):
        return "\n".join(rows + ["bits " + hex_of(bits)])

    def test_the_text(self):
        self.assertEqual(text_of_stream(stream=EXAMPLE), "rect 0 2 0 1\nmode 0\ntiles 1 0\nword X\nplanes 3\n"
                         "layers 9\norder LBTC\nbits " + hex_of(BITS))
        for stream in some_streams():
            self.assertEqual(text_of_stream(stream), self.text(rows_of_setting(stream.setting), bits_of_stream(stream)))

    def test_what_is_written_is_read_back(self):
        for stream in some_streams():
            again = stream_of(text=text_of_stream(stream))
            self.assertIsInstance(again, Stream)
            self.assertEqual(stream_told(again), stream_told(stream))

    def test_odd_rows(self):
        rows = text_of_stream(EXAMPLE).split("\n")
        for at, row in enumerate(rows):
            for odd in odd_ways(row):
                for more in ("", "\nmore"):
                    self.assert_row(at, with_row(rows, at, odd) + more)
                self.assert_row(at, "\n".join(rows[:at] + [odd] + ["x"] * (7 - at)))
        for at in (0, 1, 2, 4, 5):
            for odd in ODD_NUMBERS:
                self.assert_row(at, with_row(rows, at, with_word(rows[at], 1, odd)))

    def test_rows_that_lack_and_rows_too_many(self):
        rows = text_of_stream(EXAMPLE).split("\n")
        for many in range(1, 8):
            self.assert_row(many, "\n".join(rows[:many]))
        for more in ("\n", "\nx", "\nbits .0", "\n" + rows[7]):
            self.assert_row(8, "\n".join(rows) + more)
        self.assert_row(0, "")
        self.assert_row(0, "\n" * 8)

    def test_what_the_setting_raises_ahead_of_the_bits(self):
        rows = rows_of_setting(TWO_CELLS)
        for at, row, name in ((0, "rect 0 0 0 1", "width"), (0, "rect 0 2 999999999999 1", "y0"), (1, "mode 3", "mode"),
                              (3, "word Y", "word"), (4, "planes 21", "planes"), (5, "layers 8", "layers"),
                              (6, "order BBBB", "order")):
            wrong = with_row(rows, at, row)
            for rest in ("", "\nbits", "\nbits " + hex_of(BITS), "\nbits 0.5\nmore", "\nx"):
                with self.assertRaises(BadField) as caught:
                    stream_of(wrong + rest)
                self.assertEqual(caught.exception.name, name)
        many = rows_of_setting(changed(TWO_CELLS, mode=1, tx=0, word=""))
        with self.assertRaises(TooMany):
            stream_of("\n".join(["rect 0 32 0 32"] + many[1:]) + "\nbits .0")

    def test_no_hex_texts(self):
        rows = rows_of_setting(TWO_CELLS)
        digits = hex_of(BITS)
        for odd in ("", ".", "0", digits.upper() if digits.upper() != digits else "A.0", digits[:-1], digits + "0",
                    digits[1:], "." + digits, digits[:-2] + ".4", digits.replace(".", ""), digits + " ", " " + digits,
                    "0x" + digits, digits[:-2] + "g" + digits[-2:], ".0", ".1", "\u0661.0"):
            self.assertNotEqual(odd, digits)
            self.assert_row(7, "\n".join(rows) + "\nbits " + odd)

    def test_what_read_stream_would_raise(self):
        rows = rows_of_setting(TWO_CELLS)
        for more in ([0], [1], [0] * 9):
            self.assert_row(7, self.text(rows, BITS + more))
        for n in range(len(BITS)):
            self.assert_row(7, self.text(rows, BITS[:n]))
        for _, bits in wrong_beginnings():
            self.assert_row(7, self.text(rows, bits))
        self.assert_row(7, self.text(rows, too_many()))
        self.assert_row(7, self.text(rows, BITS + [1]) + "\nmore")

    def test_bits_that_tell_another_setting(self):
        rows = rows_of_setting(TWO_CELLS)
        for fields in ({"rect": (0, 2, 1, 2)}, {"rect": (2, 4, 0, 1)}, {"tx": 2}, {"ty": 1}, {"word": ""}, {"mode": 1},
                       {"planes": 4, "layers": (12,)}, {"layers": (4, 5)}, {"order": "BCLT"}):
            setting = changed(TWO_CELLS, **fields)
            stream = code(coded_picture(setting, 1), setting)
            self.assert_row(7, self.text(rows, stream_bits(stream)))
            self.assert_row(7, self.text(rows_of_setting(setting), BITS) + "\nmore")
            self.assertEqual(stream_told(stream_of(self.text(rows_of_setting(setting), stream_bits(stream)))),
                             stream_told(stream))

    def test_nothing_is_changed(self):
        before = stream_told(EXAMPLE)
        text = text_of_stream(EXAMPLE)
        stream_of(text).pieces[0].append(1)
        self.assertEqual((stream_told(EXAMPLE), text_of_stream(EXAMPLE)), (before, text))
        self.assertEqual(stream_told(stream_of(text)), before)


if __name__ == "__main__":
    unittest.main()
