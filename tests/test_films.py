"""Films: point [25]."""

import unittest

from narrowingbits.coefs import coefs_of, picture_of
from narrowingbits.cutting import cut
from narrowingbits.errors import BadField, Cut, NoFrame, TooFew, TooMany, Unlike
from narrowingbits.films import Film, coefs_of_frame, film
from narrowingbits.orders import pieces_of
from narrowingbits.pictures import Picture
from narrowingbits.settings import Setting
from narrowingbits.streams import Stream, code, is_whole

from film_reference import (LEANS, TWO_CELLS, broken, film_settings, film_told, made_film, some_frames, some_pictures,
                            spoilt_film, with_streams)
from picture_reference import changed, fields_of, some_picture, some_settings, stream_told, told

FIRST = Picture((0, 2, 0, 1), [[[5, 2]]])
SECOND = Picture((0, 2, 0, 1), [[[6, 2]]])
STREAM = code(FIRST, TWO_CELLS)
OTHER_SETTINGS = [changed(TWO_CELLS, **fields) for fields in (
    {"rect": (0, 1, 0, 1)}, {"mode": 1}, {"tx": 2}, {"ty": 1}, {"word": ""}, {"planes": 4, "layers": (12,)},
    {"layers": (4, 5)}, {"order": "BCLT"})]


def empty(setting):
    return Stream(setting, [[]] * len(pieces_of(setting)))


class FilmClassTest(unittest.TestCase):

    def test_attributes(self):
        for frames in ([(None, STREAM)], ((None, STREAM), (0, STREAM)), [(None, STREAM)] * 8,
                       ((None, STREAM), (None, empty(TWO_CELLS)), (1, STREAM), (0, STREAM), (3, STREAM))):
            made = Film(frames=frames, setting=TWO_CELLS)
            self.assertEqual(fields_of(made.setting), fields_of(TWO_CELLS))
            self.assertIsInstance(made.frames, list)
            for frame, expected in zip(made.frames, frames):
                self.assertIsInstance(frame, tuple)
                self.assertEqual(frame[0], expected[0])
                self.assertEqual(stream_told(frame[1]), stream_told(expected[1]))
            self.assertEqual(len(made.frames), len(frames))

    def test_streams_need_not_be_whole(self):
        for number, setting in enumerate(some_settings()):
            made = made_film(setting, LEANS[number % 7], number)
            other = spoilt_film(made, number)
            self.assertEqual([lean for lean, _ in other.frames], list(LEANS[number % 7]))

    def test_settings_that_are_others_with_the_same_fields(self):
        other = Setting((0, 2, 0, 1), 0, 1, 0, "X", 3, [9], "LBTC")
        self.assertIsInstance(Film(TWO_CELLS, [(None, empty(other)), (0, STREAM)]), Film)

    def test_what_is_handed_in_or_out_may_be_changed(self):
        frames = [(None, STREAM), (0, STREAM)]
        made = Film(TWO_CELLS, frames)
        before = film_told(made)
        frames.append((5, None))
        frames[0] = None
        made.frames.append(3)
        made.frames[1] = (1, STREAM)
        made.frames[0][1].pieces.append([1])
        self.assertEqual(film_told(made), before)
        self.assertEqual(len(made.frames), 2)

    def test_no_frames_and_too_many(self):
        for frames in ([], ()):
            with self.assertRaises(BadField) as caught:
                Film(TWO_CELLS, frames)
            self.assertEqual(caught.exception.name, "frames")
        for frames in ([(None, STREAM)] * 9, [(7, empty(OTHER_SETTINGS[0]))] * 9, ((None, STREAM),) * 100):
            with self.assertRaises(TooMany) as caught:
                Film(TWO_CELLS, frames)
            self.assertEqual(caught.exception.most, 8)

    def test_leans_ahead_of_settings(self):
        for leans in ((0,), (-1,), (1,), (None, 1), (None, 2), (None, -1), (None, None, 2), (None, 0, 3),
                      (None, 0, 1, 2, 3, 4, 5, 7), (None, -8)):
            for first in (STREAM, empty(OTHER_SETTINGS[0])):
                with self.assertRaises(BadField) as caught:
                    Film(TWO_CELLS, [(lean, first) for lean in leans])
                self.assertEqual(caught.exception.name, "lean")

    def test_unlike(self):
        for other in OTHER_SETTINGS:
            for frames in ([(None, empty(other))], [(None, STREAM), (0, empty(other))],
                           [(None, STREAM)] * 7 + [(None, empty(other))]):
                with self.assertRaises(Unlike):
                    Film(TWO_CELLS, frames)


class FilmOfPicturesTest(unittest.TestCase):

    def test_the_example(self):
        made = film([FIRST, SECOND], TWO_CELLS, [None, 0])
        self.assertIsInstance(made, Film)
        self.assertEqual([lean for lean, _ in made.frames], [None, 0])
        self.assertEqual(stream_told(made.frames[0][1]), stream_told(STREAM))
        self.assertEqual(stream_told(made.frames[1][1]), stream_told(code(picture_of([[[1]], [[1]]], TWO_CELLS), TWO_CELLS)))
        self.assertEqual([coefs_of_frame(made, n) for n in (0, 1)], [[[[3]], [[3]]], [[[4]], [[4]]]])

    def test_what_the_streams_hold(self):
        for number, (setting, leans) in enumerate(film_settings()):
            for kind in (list, tuple):
                coefs, held = some_frames(setting, leans, number)
                pictures = kind(picture_of(rows, setting) for rows in coefs)
                made = film(leans=kind(leans), setting=setting, pictures=pictures)
                self.assertEqual(fields_of(made.setting), fields_of(setting))
                self.assertEqual([lean for lean, _ in made.frames], list(leans))
                for (_, stream), rows in zip(made.frames, held):
                    self.assertTrue(is_whole(stream))
                    self.assertEqual(stream_told(stream), stream_told(code(picture_of(rows, setting), setting)))

    def test_coefs_above_the_planes_in_leaning_frames(self):
        """Only what the streams hold must be below 2 ** planes."""
        pictures = [Picture((0, 2, 0, 1), [[[7 * n, 7 * n]]]) for n in range(1, 9)]
        made = film(pictures, TWO_CELLS, [None, 0, 1, 2, 3, 4, 5, 6])
        self.assertEqual(coefs_of_frame(made, 7), [[[56]], [[0]]])
        with self.assertRaises(TooFew) as caught:
            film(pictures[:3], TWO_CELLS, [None, 0, 0])
        self.assertEqual(caught.exception.planes, 3)

    def test_the_order_of_errors(self):
        wrong = Picture((1, 3, 0, 1), [[[5, 2]]])
        great = Picture((0, 2, 0, 1), [[[99, 2]]])
        for pictures, leans, error, told_name in (
                ([], [], BadField, "frames"), ((), (3, 4), BadField, "frames"),
                ([wrong] * 9, [], TooMany, 8), ([FIRST] * 9, [None] * 9, TooMany, 8),
                ([wrong], [], Unlike, None), ([great, FIRST], [5], Unlike, None), ([FIRST], (None, 9), Unlike, None),
                ([wrong], [0], BadField, "lean"), ([FIRST, great], [None, 1], BadField, "lean"),
                ([FIRST, FIRST, FIRST], [None, 0, -1], BadField, "lean"), ([wrong] * 8, [None] * 7 + [7], BadField, "lean"),
                ([wrong], [None], Unlike, None), ([great, wrong], [None, 0], Unlike, None),
                ([FIRST, Picture((0, 2, 0, 1), [[[5, 2]]] * 3)], [None, None], Unlike, None),
                ([great], [None], TooFew, 3), ([FIRST, great], (None, 0), TooFew, 3),
                ([FIRST, Picture((0, 2, 0, 1), [[[13, 10]]])], (None, 0), TooFew, 3)):
            with self.assertRaises(error) as caught:
                film(pictures, TWO_CELLS, leans)
            for word in ("name", "most", "planes"):
                if hasattr(caught.exception, word):
                    self.assertEqual(getattr(caught.exception, word), told_name)
        self.assertEqual(coefs_of_frame(film([FIRST, Picture((0, 2, 0, 1), [[[12, 9]]])], TWO_CELLS, (None, 0)), 1),
                         [[[10]], [[3]]])

    def test_what_is_handed_in(self):
        pictures, leans = [FIRST, SECOND], [None, 0]
        made = film(pictures, TWO_CELLS, leans)
        before = film_told(made)
        self.assertEqual(([told(picture) for picture in pictures], leans), ([told(FIRST), told(SECOND)], [None, 0]))
        pictures.reverse()
        leans[1] = None
        self.assertEqual(film_told(made), before)
        self.assertEqual(film_told(film([FIRST, SECOND], TWO_CELLS, [None, 0])), before)


class CoefsOfFrameTest(unittest.TestCase):

    def test_sums_along_the_chain(self):
        for number, (setting, leans) in enumerate(film_settings()):
            coefs, _ = some_frames(setting, leans, number)
            made = film([picture_of(rows, setting) for rows in coefs], setting, leans)
            for n in range(len(leans)):
                found = coefs_of_frame(n=n, film=made)
                self.assertEqual(found, coefs[n])
                self.assertEqual(found, coefs_of(picture_of(coefs[n], setting), setting))
                found[0].append(1)
                self.assertEqual(coefs_of_frame(made, n), coefs[n])

    def test_no_frame_ahead_of_cut(self):
        made = Film(TWO_CELLS, [(None, cut(STREAM, 7)), (0, STREAM)])
        for n in (2, -1, -2, 8, 10 ** 20):
            with self.assertRaises(NoFrame) as caught:
                coefs_of_frame(made, n)
            self.assertEqual(caught.exception.number, n)

    def test_cut(self):
        leans = (None, 0, 0, None, 3, 1)
        chains = {0: (0,), 1: (1, 0), 2: (2, 0), 3: (3,), 4: (4, 3), 5: (5, 1, 0)}
        for setting in some_settings()[:6]:
            coefs, _ = some_frames(setting, leans, 5)
            whole = film(some_pictures(setting, leans, 5), setting, leans)
            for k in range(6):
                stream = whole.frames[k][1]
                longer = Stream(setting, [stream.pieces[0] + [0]] + stream.pieces[1:])
                for other in (broken(stream), longer, empty(setting)):
                    made = with_streams(whole, {k: other})
                    for n in range(6):
                        if k in chains[n]:
                            with self.assertRaises(Cut):
                                coefs_of_frame(made, n)
                        else:
                            self.assertEqual(coefs_of_frame(made, n), coefs[n])

    def test_big_pictures(self):
        setting = Setting((-3, 29, 5, 37), 2, 5, 5, "XYXYX", 12, (6, 6, 6, 6, 6, 6), "LBTC")
        pictures = [some_picture(setting, seed, 200) for seed in range(3)]
        made = film(pictures, setting, (None, 0, 1))
        for n in range(3):
            self.assertEqual(told(picture_of(coefs_of_frame(made, n), setting)), told(pictures[n]))


if __name__ == "__main__":
    unittest.main()
