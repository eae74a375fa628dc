"""Texts of settings and pictures: point [31]."""

import unittest

from narrowingbits.errors import BadField, BadGrid, BadText, Great, TooMany
from narrowingbits.orders import ORDERS
from narrowingbits.pictures import Picture
from narrowingbits.settings import Setting
from narrowingbits.texts import picture_read, setting_of, text_of_picture, text_of_setting

from picture_reference import changed, fields_of, some_picture, some_settings, told
from text_reference import (ODD_NUMBERS, RIGHT_NUMBERS, odd_ways, rows_of_picture, rows_of_setting, with_row,
                            with_word)

FAR = 2 ** 30
TWO_CELLS = Setting((0, 2, 0, 1), 0, 1, 0, "X", 3, (9,), "LBTC")
PICTURE = Picture((-1, 2, 0, 2), [[[7, -5, 0], [1, 2, 3]]])


def many_settings():
    for number, setting in enumerate(some_settings()):
        yield changed(setting, order=ORDERS[number * 2])
    yield Setting((-FAR, -FAR + 32, FAR - 1, FAR), 2, 5, 5, "XYXYXYXYXY", 20, [10] * 6, "TLCB")
    yield Setting((FAR - 1, FAR, -FAR, -FAR + 1), 1, 0, 0, "", 1, (1, 1, 1), "BCLT")


class TextTest(unittest.TestCase):

    def assert_row(self, row, read, text):
        with self.assertRaises(BadText, msg=repr(text)) as caught:
            read(text)
        self.assertEqual(caught.exception.row, row, repr(text))


class SettingTest(TextTest):

    def test_the_text(self):
        self.assertEqual(text_of_setting(TWO_CELLS), "rect 0 2 0 1\nmode 0\ntiles 1 0\nword X\nplanes 3\nlayers 9\norder LBTC")
        setting = Setting((-3, 2, -1, 2), 2, 1, 2, "", 4, (2, 10), "TCLB")
        self.assertEqual(text_of_setting(setting=setting),
                         "rect -3 2 -1 2\nmode 2\ntiles 1 2\nword -\nplanes 4\nlayers 2 10\norder TCLB")

    def test_what_is_written_is_read_back(self):
        for setting in many_settings():
            text = text_of_setting(setting)
            self.assertEqual(text, "\n".join(rows_of_setting(setting)))
            again = setting_of(text=text)
            self.assertIsInstance(again, Setting)
            self.assertEqual(fields_of(again), fields_of(setting))
            self.assertIsInstance(again.rect, tuple)
            self.assertIsInstance(again.layers, tuple)

    def test_odd_rows(self):
        for setting in list(many_settings())[::3]:
            rows = rows_of_setting(setting)
            for at, row in enumerate(rows):
                for odd in odd_ways(row):
                    self.assert_row(at, setting_of, with_row(rows, at, odd))
                    # Whatever stands behind it.
                    self.assert_row(at, setting_of, with_row(rows, at, odd) + "\nmore")
                    self.assert_row(at, setting_of, "\n".join(rows[:at] + [odd] + ["x"] * (6 - at)))
                    self.assert_row(at, setting_of, "\n".join(rows[:at] + [odd]))

    def test_odd_numbers(self):
        rows = rows_of_setting(Setting((0, 2, 0, 1), 0, 1, 0, "X", 3, (3, 6), "LBTC"))
        for at in (0, 1, 2, 4, 5):
            for place in range(1, len(rows[at].split(" "))):
                for odd in ODD_NUMBERS:
                    self.assert_row(at, setting_of, with_row(rows, at, with_word(rows[at], place, odd)))

    def test_numbers_of_twelve_figures(self):
        """They are written right; the setting refuses them."""
        rows = rows_of_setting(TWO_CELLS)
        for at, place, name in ((0, 1, "x0"), (0, 2, "width"), (0, 3, "y0"), (0, 4, "height"), (1, 1, "mode"),
                                (2, 1, "tx"), (2, 2, "ty"), (4, 1, "planes"), (5, 1, "layers")):
            for number in (999999999999, -999999999999, 100000000000):
                with self.assertRaises(BadField) as caught:
                    setting_of(with_row(rows, at, with_word(rows[at], place, str(number))))
                self.assertEqual(caught.exception.name, name)

    def test_odd_words_and_orders(self):
        rows = rows_of_setting(TWO_CELLS)
        for odd in ("", "x", "XZ", "X-", "--", "XY-", "X Y", "-X", "0", "XX.", "\u0425"):
            self.assert_row(3, setting_of, with_row(rows, 3, "word " + odd))
        for odd in ("", "LBT", "LBTCC", "lbtc", "LBTX", "L B T C", "LBTC ", "-", "LBT-", "\u0412CLT"):
            self.assert_row(6, setting_of, with_row(rows, 6, "order " + odd))

    def test_what_the_rows_tell_refused_by_the_setting(self):
        rows = rows_of_setting(TWO_CELLS)
        for at, row, name in ((0, "rect 0 0 0 1", "width"), (0, "rect 2 0 0 1", "width"), (0, "rect 0 33 0 1", "width"),
                              (0, "rect 1073741825 1073741826 0 1", "x0"), (0, "rect 1073741824 1073741825 0 1", "width"),
                              (0, "rect 0 2 -1073741825 1", "y0"), (0, "rect 0 2 1 1", "height"), (1, "mode 3", "mode"),
                              (1, "mode -1", "mode"), (2, "tiles 6 0", "tx"), (2, "tiles 1 -1", "ty"),
                              (3, "word XX", "word"), (3, "word Y", "word"), (3, "word XXXXXXXXXXXXXXXXXXXX", "word"),
                              (4, "planes 0", "planes"), (4, "planes 21", "planes"), (4, "planes 4", "layers"),
                              (5, "layers 8", "layers"), (5, "layers 0 9", "layers"), (5, "layers -1 10", "layers"),
                              (5, "layers 1 1 1 1 1 1 3", "layers"), (6, "order LLLL", "order"),
                              (6, "order BCLL", "order"), (6, "order TTCB", "order")):
            with self.assertRaises(BadField, msg=row) as caught:
                setting_of(with_row(rows, at, row))
            self.assertEqual(caught.exception.name, name, row)
        many = "rect 0 32 0 32\nmode 1\ntiles 0 0\nword -\nplanes 3\nlayers 9\norder LBTC"
        with self.assertRaises(TooMany) as caught:
            setting_of(many)
        self.assertEqual(caught.exception.most, 2000)

    def test_rows_that_lack_and_rows_too_many(self):
        for setting in many_settings():
            rows = rows_of_setting(setting)
            for many in range(1, 7):
                self.assert_row(many, setting_of, "\n".join(rows[:many]))
            for more in ("\n", "\nmore", "\norder LBTC", "\n\n\n", "\nbits .0"):
                self.assert_row(7, setting_of, "\n".join(rows) + more)
        self.assert_row(0, setting_of, "")
        self.assert_row(0, setting_of, "\n")
        self.assert_row(0, setting_of, "\n" + text_of_setting(TWO_CELLS))

    def test_bad_text_ahead_of_bad_field(self):
        rows = rows_of_setting(TWO_CELLS)
        wrong = with_row(rows, 0, "rect 5 2 0 1")
        self.assert_row(7, setting_of, wrong + "\n")
        self.assert_row(6, setting_of, with_row(wrong.split("\n"), 6, "order"))
        self.assert_row(4, setting_of, "\n".join(wrong.split("\n")[:4]))


class PictureTest(TextTest):

    def test_the_text(self):
        self.assertEqual(text_of_picture(PICTURE), "rect -1 2 0 2\nchannels 1\n7 -5 0\n1 2 3")
        three = Picture((0, 1, 0, 2), [[[1], [2]], [[3], [4]], [[-5], [0]]])
        self.assertEqual(text_of_picture(picture=three), "rect 0 1 0 2\nchannels 3\n1\n2\n3\n4\n-5\n0")

    def test_what_is_written_is_read_back(self):
        for number, setting in enumerate(many_settings()):
            picture = some_picture(setting, number, 10 ** 12 - 1)
            text = text_of_picture(picture)
            self.assertEqual(text, "\n".join(rows_of_picture(picture)))
            again = picture_read(text=text)
            self.assertIsInstance(again, Picture)
            self.assertEqual(told(again), told(picture))

    def test_great_numbers(self):
        for number in RIGHT_NUMBERS:
            self.assertEqual(text_of_picture(Picture((0, 2, 0, 1), [[[0, number]]])),
                             f"rect 0 2 0 1\nchannels 1\n0 {number}")
        for number in (10 ** 12, -10 ** 12, 10 ** 13 - 1, 10 ** 5000):
            for picture in (Picture((0, 2, 0, 1), [[[0, number]]]), Picture((0, 1, 0, 1), [[[1]], [[2]], [[number]]]),
                            Picture((number, number + 1, 0, 1), [[[1]]]), Picture((0, 1, number - 1, number), [[[1]]])):
                with self.assertRaises(Great):
                    text_of_picture(picture)
        with self.assertRaises(Great):
            text_of_picture(Picture((10 ** 12 - 1, 10 ** 12, 0, 1), [[[1]]]))
        far = Picture((10 ** 12 - 2, 10 ** 12 - 1, 1 - 10 ** 12, 2 - 10 ** 12), [[[1]]])
        self.assertEqual(told(picture_read(text_of_picture(far))), told(far))

    def test_odd_rows(self):
        for number, setting in enumerate(list(many_settings())[:12:4]):
            rows = rows_of_picture(some_picture(setting, number))
            for at, row in enumerate(rows[:3] + rows[-1:]):
                at = at if at < 3 else len(rows) - 1
                for odd in odd_ways(row):
                    # A row of numbers only has no name that could be written otherwise.
                    if at < 2 or odd not in (row.split(" ")[0], " ".join(row.split(" ")[1:])) or odd == "":
                        self.assert_row(at, picture_read, with_row(rows, at, odd))
                        self.assert_row(at, picture_read, "\n".join(rows[:at] + [odd]))

    def test_odd_numbers(self):
        rows = rows_of_picture(PICTURE)
        for at, row in enumerate(rows):
            for place in range(1 if at < 2 else 0, len(row.split(" "))):
                for odd in ODD_NUMBERS:
                    self.assert_row(at, picture_read, with_row(rows, at, with_word(row, place, odd)))
                if at >= 2:
                    for number in RIGHT_NUMBERS:
                        again = picture_read(with_row(rows, at, with_word(row, place, str(number))))
                        self.assertEqual(again.channels[0][at - 2][place], number)

    def test_rows_of_other_lengths(self):
        rows = rows_of_picture(PICTURE)
        for at in (2, 3):
            for row in ("1", "1 2", "1 2 3 4", "", "1 2 3 ", " 1 2 3", "1  2"):
                self.assert_row(at, picture_read, with_row(rows, at, row))

    def test_rows_that_lack_and_rows_too_many(self):
        three = Picture((0, 2, 0, 2), [[[1, 2], [3, 4]]] * 3)
        for picture in (PICTURE, three):
            rows = rows_of_picture(picture)
            for many in range(1, len(rows)):
                self.assert_row(many, picture_read, "\n".join(rows[:many]))
            for more in ("\n", "\n1 2", "\n" + rows[-1], "\n\n\n"):
                self.assert_row(len(rows), picture_read, "\n".join(rows) + more)
        self.assert_row(0, picture_read, "")
        self.assert_row(0, picture_read, "\n")
        self.assert_row(1, picture_read, "rect 0 1 0 1")
        self.assert_row(1, picture_read, "rect 0 0 0 1\n")
        # Of three channels the text tells one alone.
        self.assert_row(4, picture_read, "rect 0 2 0 2\nchannels 3\n1 2\n3 4")

    def test_the_first_two_rows_then_bad_grid_then_the_others(self):
        for rect in ("0 0 0 1", "1 0 0 1", "0 33 0 1", "0 1 5 5", "0 1 0 33", "0 1 1 0", "-999999999999 999999999999 0 1"):
            for rest in ("", "\n", "\n1", "\nx"):
                with self.assertRaises(BadGrid):
                    picture_read(f"rect {rect}\nchannels 1{rest}")
            self.assert_row(1, picture_read, f"rect {rect}\nchannel 1\n1")
            self.assert_row(1, picture_read, f"rect {rect}\nchannels 01\n1")
            self.assert_row(1, picture_read, f"rect {rect}")
        for many in (0, 2, 4, -1, 999999999999):
            for rest in ("", "\n1", "\nx\ny"):
                with self.assertRaises(BadGrid):
                    picture_read(f"rect 0 1 0 1\nchannels {many}{rest}")
        for rest in ("\nx", "\n", "\n1 2", "\n01"):
            self.assert_row(2, picture_read, f"rect 0 1 0 1\nchannels 1{rest}")
        self.assertEqual(told(picture_read("rect 0 32 -1 0\nchannels 1\n" + " ".join(["-3"] * 32))),
                         ((0, 32, -1, 0), [[[-3] * 32]]))
        self.assertEqual(told(picture_read("rect -1 0 -2 30\nchannels 1" + "\n4" * 32)), ((-1, 0, -2, 30), [[[4]] * 32]))


if __name__ == "__main__":
    unittest.main()
