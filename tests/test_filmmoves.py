"""Deeds on each frame of a film: points [18] to [22] and [27]."""

import itertools
import unittest

from narrowingbits.cutting import keep_layers
from narrowingbits.errors import BadField, Cut, Outside
from narrowingbits.filmboxes import frame_box
from narrowingbits.filmmoves import (film_keep_layers, film_reorder, film_shift, film_shrink, film_take,
                                     film_turned)
from narrowingbits.films import Film, film
from narrowingbits.moving import reorder, shift, shrink, take
from narrowingbits.orders import ORDERS, lines_of, tile_rect, tiles_of
from narrowingbits.pictures import Picture
from narrowingbits.settings import Setting
from narrowingbits.streams import Stream, is_layered
from narrowingbits.turning import turned

from deed_reference import (layered_stream, low_picture, low_setting, part_of, turned_picture, turned_rows,
                            turned_setting)
from film_reference import (TWO_CELLS, broken, cut_by_words, film_settings, film_told, made_film, payload_of,
                            some_pictures, spoilt_film, with_streams)
from picture_reference import changed, stream_told

FAR = 2 ** 30


def spans(setting):
    """Some (j0, j1, i0, i1) within the tiles."""
    (j, i), (last_j, last_i) = tiles_of(setting)[0], tiles_of(setting)[-1]
    both = itertools.product(itertools.combinations(range(j, last_j + 2), 2),
                             itertools.combinations(range(i, last_i + 2), 2))
    return [one + other for one, other in itertools.islice(both, 0, None, 5)]


def box_rows(made, n):
    """A dict from (c, j, i, b) to the rows of stretches of a frame's box."""
    box = frame_box(made, n)
    return {line[:4]: rows for line, rows in zip(lines_of(made.setting), box.stretches())}


class DeedTest(unittest.TestCase):

    def assert_same(self, made, expected):
        self.assertIsInstance(made, Film)
        self.assertEqual(film_told(made), film_told(expected))

    def assert_frame_by_frame(self, made, result, deed):
        """That the result has the same leans, and in each frame what the deed makes of its stream."""
        expected = [(lean, deed(stream)) for lean, stream in made.frames]
        self.assert_same(result, Film(expected[0][1].setting, expected))

    def films_with_pictures(self):
        for number, (setting, leans) in enumerate(film_settings()):
            pictures = some_pictures(setting, leans, number)
            yield film(pictures, setting, leans), pictures, setting, leans

    def other_films(self):
        """Films that are cut and spoilt."""
        for number, (setting, leans) in enumerate(film_settings()):
            made = made_film(setting, leans, number)
            yield cut_by_words(made, len(payload_of(made)) // 2)
            yield spoilt_film(made, number)


class WholeFilmsTest(DeedTest):
    """What `film` writes of the changed pictures, by the changed setting, with the same leans."""

    def test_film_shrink(self):
        for made, pictures, setting, leans in self.films_with_pictures():
            for n in range(len(setting.word) + 1):
                lows = [low_picture(picture, setting.mode, setting.word[:n]) for picture in pictures]
                self.assert_same(film_shrink(n=n, film=made), film(lows, low_setting(setting, n), leans))

    def test_film_take(self):
        for made, pictures, setting, leans in self.films_with_pictures():
            for j0, j1, i0, i1 in spans(setting):
                first, last = tile_rect(setting, j0, i0), tile_rect(setting, j1 - 1, i1 - 1)
                rect = (first[0], last[1], first[2], last[3])
                parts = [part_of(picture, rect) for picture in pictures]
                self.assert_same(film_take(film=made, j0=j0, j1=j1, i0=i0, i1=i1),
                                 film(parts, changed(setting, rect=rect), leans))

    def test_film_shift(self):
        for made, pictures, setting, leans in self.films_with_pictures():
            x0, x1, y0, y1 = setting.rect
            for a, b in ((0, 0), (1, -2), (-1000, 3)):
                by_x, by_y = a * 2 ** setting.tx, b * 2 ** setting.ty
                rect = (x0 + by_x, x1 + by_x, y0 + by_y, y1 + by_y)
                moved = [Picture(rect, picture.channels) for picture in pictures]
                self.assert_same(film_shift(b=b, a=a, film=made), film(moved, changed(setting, rect=rect), leans))

    def test_film_turned(self):
        for made, pictures, setting, leans in self.films_with_pictures():
            for word in ("", "M", "S", "SM", "MSMSMSMS"):
                moved = [turned_picture(picture, word) for picture in pictures]
                self.assert_same(film_turned(word=word, film=made), film(moved, turned_setting(setting, word), leans))

    def test_film_reorder(self):
        for made, pictures, setting, leans in self.films_with_pictures():
            for order in ORDERS[::5]:
                self.assert_same(film_reorder(order=order, film=made),
                                 film(pictures, changed(setting, order=order), leans))


class FrameByFrameTest(DeedTest):

    def test_streams_of_films_that_are_cut_and_spoilt(self):
        for number, made in enumerate(self.other_films()):
            setting = made.setting
            before = film_told(made)
            n = len(setting.word) // 2
            span = spans(setting)[-1]
            order = ORDERS[number % 24]
            self.assert_frame_by_frame(made, film_shrink(made, n), lambda one: shrink(one, n))
            self.assert_frame_by_frame(made, film_take(made, *span), lambda one: take(one, *span))
            self.assert_frame_by_frame(made, film_shift(made, -2, 5), lambda one: shift(one, -2, 5))
            self.assert_frame_by_frame(made, film_reorder(made, order), lambda one: reorder(one, order))
            for m in range(len(setting.layers) + 1):
                self.assert_frame_by_frame(made, film_keep_layers(m=m, film=made), lambda one: keep_layers(one, m))
            self.assertEqual(film_told(made), before)

    def test_boxes(self):
        """The box of each frame is the old one changed likewise."""
        for made in self.other_films():
            setting = made.setting
            n = len(setting.word) // 2
            span = spans(setting)[-1]
            results = [(film_shrink(made, n), lambda c, j, i, b: b <= len(setting.word) - n, 0, 0),
                       (film_take(made, *span), lambda c, j, i, b: span[0] <= j < span[1] and span[2] <= i < span[3], 0, 0),
                       (film_shift(made, -2, 5), lambda c, j, i, b: True, 5, -2),
                       (film_reorder(made, "TLCB"), lambda c, j, i, b: True, 0, 0)]
            for k in range(len(made.frames)):
                rows = box_rows(made, k)
                for result, kept, by_j, by_i in results:
                    expected = {(c, j + by_j, i + by_i, b): rows[c, j, i, b] for c, j, i, b in rows if kept(c, j, i, b)}
                    self.assertEqual(box_rows(result, k), expected)

    def test_keep_layers_of_whole_films(self):
        """The box of each frame is that of what is left, a wider one."""
        for made, _, setting, leans in self.films_with_pictures():
            for m in range(len(setting.layers) + 1):
                result = film_keep_layers(made, m)
                for n in range(len(leans)):
                    self.assertTrue(frame_box(made, n).inside(frame_box(result, n)))

    def test_turned_films_of_some_layers(self):
        for number, (setting, leans) in enumerate(film_settings()):
            whole = made_film(setting, leans, number)
            streams = {n: layered_stream(setting, number * 10 + n) for n in range(len(leans)) if n != 1}
            made = with_streams(whole, streams)
            for word in ("", "M", "S", "SMS", "MSMSMSMS"):
                self.assert_frame_by_frame(made, film_turned(made, word), lambda one: turned(one, word))
            for word in ("M", "S"):
                result = film_turned(made, word)
                for n in range(len(leans)):
                    self.assertEqual(box_rows(result, n), turned_rows(setting, box_rows(made, n), word))


class ErrorsTest(DeedTest):

    def setUp(self):
        self.setting = Setting((-3, 2, -1, 2), 0, 1, 1, "YX", 3, (4, 5), "LBTC")
        self.film = made_film(self.setting, (None, 0, 1, None), 3)

    def assert_field(self, name, deed, *things):
        with self.assertRaises(BadField) as caught:
            deed(*things)
        self.assertEqual(caught.exception.name, name, things)

    def test_outside(self):
        for n in (-1, 3, 10 ** 20):
            with self.assertRaises(Outside):
                film_shrink(self.film, n)
            with self.assertRaises(Outside):
                film_keep_layers(self.film, n)
        (j, i), (last_j, last_i) = tiles_of(self.setting)[0], tiles_of(self.setting)[-1]
        for span in ((j - 1, j + 1, i, i + 1), (j, j, i, i + 1), (j, last_j + 2, i, i + 1), (j, j + 1, i + 1, i),
                     (j, j + 1, i, last_i + 2), (j, j + 1, i - 1, i + 1)):
            with self.assertRaises(Outside):
                film_take(self.film, *span)

    def test_rims(self):
        for a, b, name in ((FAR, 0, "x0"), (FAR // 2, 0, "width"), (0, -FAR, "y0"), (0, FAR // 2, "height"),
                           (10 ** 30, 10 ** 30, "x0")):
            self.assert_field(name, film_shift, self.film, a, b)

    def test_orders(self):
        for order in ("", "BCL", "BBCL", "bclt", "LBTCL"):
            self.assert_field("order", film_reorder, self.film, order)

    def test_films_that_are_not_layered(self):
        for k in range(4):
            stream = self.film.frames[k][1]
            for other in (broken(stream), Stream(self.setting, [stream.pieces[0] + [1]] + stream.pieces[1:])):
                self.assertFalse(is_layered(other))
                made = with_streams(self.film, {k: other})
                for word in ("", "M", "S", "X", "MSMSMSMS", "MX"):
                    with self.assertRaises(Cut):
                        film_turned(made, word)
        for word in ("X", "m", "MS ", "SSSY"):
            self.assert_field("motion", film_turned, self.film, word)
        self.assert_same(film_turned(self.film, ""), self.film)

    def test_what_is_handed_in(self):
        before = film_told(self.film)
        for result in (film_shrink(self.film, 0), film_shift(self.film, 0, 0), film_turned(self.film, ""),
                       film_reorder(self.film, "LBTC"), film_keep_layers(self.film, 2), film_take(self.film, -1, 1, -2, 1)):
            self.assertEqual(film_told(result), before)
            result.frames.append(1)
            result.frames[0][1].pieces[0].append(1)
            self.assertEqual(film_told(result), before)
            self.assertEqual(film_told(self.film), before)
        self.assertEqual(stream_told(self.film.frames[0][1]), before[2][0])
        self.assertEqual(film_told(film_shift(made_film(TWO_CELLS, (None,), 1), 0, 0)),
                         film_told(made_film(TWO_CELLS, (None,), 1)))


if __name__ == "__main__":
    unittest.main()
