"""Bits as hexadecimal text: point [3]."""

import itertools
import unittest

from narrowingbits.errors import BadBits, BadText
from narrowingbits.hexes import bits_of, hex_of


class HexTest(unittest.TestCase):

    def refused(self, text):
        with self.assertRaises(BadText, msg=repr(text)) as caught:
            bits_of(text)
        self.assertEqual(caught.exception.row, 0)

    def test_examples(self):
        for bits, text in (([], ".0"), ([1, 0, 1], "a.1"), ([1, 1, 1, 1, 0, 0, 0, 0], "f0.0"),
                           ([1], "8.3"), ([0], "0.3"), ([0, 0], "0.2"), ([0, 0, 0, 1, 1], "18.3")):
            self.assertEqual(hex_of(bits), text)
            self.assertEqual(bits_of(text), bits)

    def test_each_digit(self):
        for n, digit in enumerate("0123456789abcdef"):
            bits = [n // 8, n // 4 % 2, n // 2 % 2, n % 2]
            self.assertEqual(hex_of(bits), digit + ".0")
            self.assertEqual(bits_of(digit + ".0"), bits)

    def test_both_ways_for_all_small_lists(self):
        texts = {}
        for length in range(11):
            for row in itertools.product((0, 1), repeat=length):
                bits = list(row)
                text = hex_of(bits)
                self.assertEqual(bits_of(text), bits)
                texts[text] = True
        self.assertEqual(len(texts), 2 ** 11 - 1)

    def test_just_the_written_texts_are_read(self):
        written = {}
        for length in range(5):
            for row in itertools.product((0, 1), repeat=length):
                written[hex_of(list(row))] = list(row)
        for digit in ("",) + tuple("0123456789abcdef"):
            for filling in "0123456789":
                text = digit + "." + filling
                if text in written:
                    self.assertEqual(bits_of(text), written[text])
                else:
                    self.refused(text)

    def test_great_lists(self):
        for length in (999, 1000, 1001, 1002):
            bits = [k * k // 7 % 2 for k in range(length)]
            self.assertEqual(bits_of(hex_of(bits)), bits)

    def test_other_characters(self):
        for text in ("g.0", "A.0", "F0.0", " a.0", "a.0 ", "a .0", "-1.0", "a.0\n", "\na.0", "_a.0",
                     "0x1.0", "\u0661.0", "a.\u0661", "af+.0", "aX.1", "a,.0"):
            self.refused(text)

    def test_not_exactly_one_point(self):
        for text in ("", "a", "a0", "..0", "a..0", "a.0.", ".a.0", "a.0.0", ".", ".."):
            self.refused(text)

    def test_behind_the_point(self):
        for text in ("a.", ".", "a.4", "a.9", "a.a", "a.00", "a.01", "a.10", "0.-1", "0.+1", "0. 1"):
            self.refused(text)

    def test_filling_without_a_digit(self):
        for text in (".1", ".2", ".3"):
            self.refused(text)

    def test_filling_that_is_not_zero(self):
        for text in ("1.1", "b.1", "2.2", "3.2", "1.2", "4.3", "c.3", "f.3", "01.1", "ff.1", "84.3"):
            self.refused(text)

    def test_bad_bits(self):
        for wrong in (2, -1, 10, "0", None):
            for bits in ([wrong], [0, 1, wrong], [wrong, 0, 0, 0, 0], [1] * 8 + [wrong]):
                with self.assertRaises(BadBits):
                    hex_of(bits)

    def test_nothing_handed_in_is_changed_and_what_is_told_is_new(self):
        bits = [1, 0, 1]
        hex_of(bits)
        self.assertEqual(bits, [1, 0, 1])
        bits_of(text="a.1").append(1)
        self.assertEqual(bits_of("a.1"), [1, 0, 1])


if __name__ == "__main__":
    unittest.main()
