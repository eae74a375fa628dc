"""Deeds on the frames of a film together: point [27]."""

import unittest

from narrowingbits.coefs import picture_of
from narrowingbits.errors import BadField, Cut, Last, NoFrame, Outside, TooFew, TooMany, Unlike
from narrowingbits.filmboxes import chain, frame_box
from narrowingbits.filmdeeds import add_frame, film_lighten, glue, leave_out, relean
from narrowingbits.films import Film, coefs_of_frame, film
from narrowingbits.orders import lines_of, pieces_of
from narrowingbits.pictures import Picture
from narrowingbits.streams import Stream, code
from narrowingbits.turning import lighten

from deed_reference import lighter
from film_reference import (LEANS, TWO_CELLS, broken, film_settings, film_told, made_film, some_frames, some_pictures,
                            spoilt_film, with_streams)
from picture_reference import changed, coded_picture, some_picture, some_settings, stream_told, told

SMALL = 1
FIRST = Picture((0, 2, 0, 1), [[[5, 2]]])
GREAT = Picture((0, 2, 0, 1), [[[99, 2]]])


def empty(setting):
    return Stream(setting, [[]] * len(pieces_of(setting)))


def longer(stream):
    """The stream with a bit too many in its first piece."""
    return Stream(stream.setting, [stream.pieces[0] + [0]] + stream.pieces[1:])


class DeedTest(unittest.TestCase):

    def assert_same(self, made, expected):
        self.assertIsInstance(made, Film)
        self.assertEqual(film_told(made), film_told(expected))

    def assert_error(self, error, told_thing, deed, *things):
        with self.assertRaises(error) as caught:
            deed(*things)
        for word in ("name", "most", "planes", "number"):
            if hasattr(caught.exception, word):
                self.assertEqual(getattr(caught.exception, word), told_thing, things)

    def films_with_pictures(self, most=SMALL):
        """Whole films of several frames, of small numbers, so that sums are not too great."""
        for number, (setting, leans) in enumerate(film_settings()):
            pictures = some_pictures(setting, leans, number, most)
            yield film(pictures, setting, leans), pictures, setting, leans


class LightenTest(DeedTest):

    def test_what_film_writes(self):
        for made, pictures, setting, leans in self.films_with_pictures(3):
            for c in (0, 2, -4):
                expected = film([lighter(picture, c) for picture in pictures], setting, leans)
                self.assert_same(film_lighten(c=c, film=made), expected)

    def test_only_the_keys_are_asked_and_changed(self):
        for number, (setting, leans) in enumerate(film_settings()):
            made = made_film(setting, leans, number, 3)
            leaning = [n for n, lean in enumerate(leans) if lean is not None]
            other = spoilt_film(made, number, leaning)
            result = film_lighten(other, 2)
            for n, (lean, stream) in enumerate(other.frames):
                expected = lighten(stream, 2) if lean is None else stream
                self.assertEqual(stream_told(result.frames[n][1]), stream_told(expected))
            self.assertEqual([lean for lean, _ in result.frames], list(leans))
            coarse = [at for at, line in enumerate(lines_of(setting)) if line[3] == 0 and (line[0] == 0 or setting.mode != 2)]
            for n in range(len(leans)):
                rows, lighter_rows = frame_box(other, n).stretches(), frame_box(result, n).stretches()
                for at, line in enumerate(rows):
                    by = 2 if at in coarse else 0
                    self.assertEqual(lighter_rows[at], [[(low + by, high + by) for low, high in row] for row in line])

    def test_cut_ahead_of_too_few(self):
        made = film([FIRST, GREAT, FIRST], changed(TWO_CELLS, planes=7, layers=(21,)), [None, None, 0])
        for k in (0, 1):
            stream = made.frames[k][1]
            for other in (longer(stream), empty(made.setting)):
                for c in (0, 1, 10 ** 9):
                    self.assert_error(Cut, None, film_lighten, with_streams(made, {k: other}), c)
        self.assert_error(TooFew, 7, film_lighten, made, 100)
        self.assert_error(TooFew, 7, film_lighten, with_streams(made, {2: empty(made.setting)}), -200)
        self.assertIsInstance(film_lighten(with_streams(made, {2: empty(made.setting)}), 1), Film)


class ReleanTest(DeedTest):

    def test_what_film_writes(self):
        for made, pictures, setting, leans in self.films_with_pictures():
            for n in range(len(leans)):
                for m in [None] + list(range(n)):
                    changed_leans = list(leans)
                    changed_leans[n] = m
                    try:
                        expected = film(pictures, setting, changed_leans)
                    except TooFew:
                        self.assert_error(TooFew, 3, relean, made, n, m)
                    else:
                        self.assert_same(relean(m=m, n=n, film=made), expected)

    def test_all_pictures_stay(self):
        made = made_film(TWO_CELLS, LEANS[4], 3, 1)
        before = film_told(made)
        for n, m in ((5, None), (5, 0), (4, 0), (2, 1), (1, None), (3, 2), (0, None)):
            result = relean(made, n, m)
            for k in range(6):
                self.assertEqual(coefs_of_frame(result, k), coefs_of_frame(made, k))
            self.assertEqual(chain(result, n), [n] if m is None else [n] + chain(result, m))
        self.assertEqual(film_told(made), before)

    def test_other_frames_keep_their_pieces(self):
        """Frames that are in neither chain may be as they like; so may those that lean on the frame."""
        leans = (None, 0, None, 1, 1, 0)
        for number, setting in enumerate(some_settings()):
            made = made_film(setting, leans, number, 1)
            for seed in range(3):
                other = spoilt_film(made, seed, [2, 3, 5])
                result = relean(other, 4, 0)
                self.assertEqual([lean for lean, _ in result.frames], [None, 0, None, 1, 0, 0])
                for k in (0, 1, 2, 3, 5):
                    self.assertEqual(stream_told(result.frames[k][1]), stream_told(other.frames[k][1]))
                self.assertEqual(coefs_of_frame(result, 4), coefs_of_frame(made, 4))
                result = relean(other, 1, None)
                for k in (0, 2, 3, 4, 5):
                    self.assertEqual(stream_told(result.frames[k][1]), stream_told(other.frames[k][1]))
                for k in range(6):
                    # Where the frame 1 becomes a key, those that lean on it tell the same.
                    self.assertEqual(frame_box(result, k).stretches(), frame_box(other, k).stretches())

    def test_the_order_of_errors(self):
        leans = (None, 0, 0, None)
        setting = changed(TWO_CELLS, word="")
        whole = film([Picture((0, 2, 0, 1), [[[n, 0]]]) for n in (7, 14, 9, -7)], setting, leans)
        spoiled = with_streams(whole, {0: broken(whole.frames[0][1]), 2: empty(setting)})
        for made in (whole, spoiled):
            for n in (-1, 4, 10 ** 20):
                for m in (None, 0, -1, 99):
                    self.assert_error(NoFrame, n, relean, made, n, m)
            for n, m in ((0, 0), (0, 1), (1, 1), (1, 2), (3, 3), (2, -1), (3, 10 ** 20), (1, -10 ** 20)):
                self.assert_error(Outside, None, relean, made, n, m)
        for n, m in ((0, None), (1, None), (1, 0), (2, None), (2, 0), (2, 1), (3, 0), (3, 1), (3, 2)):
            self.assert_error(Cut, None, relean, spoiled, n, m)
        self.assertIsInstance(relean(spoiled, 3, None), Film)
        for n, m in ((1, None), (3, 0), (3, 1), (3, 2), (2, None)):
            self.assert_error(TooFew, 3, relean, whole, n, m)
        self.assertIsInstance(relean(whole, 2, 1), Film)
        # The chain of n is asked for also where it is to be a key, the chain of m where n is one.
        for n, m, k in ((1, None, 0), (1, None, 1), (3, 1, 0), (3, 1, 1), (3, 1, 3), (3, 2, 2)):
            self.assert_error(Cut, None, relean, with_streams(whole, {k: longer(whole.frames[k][1])}), n, m)


class LeaveOutTest(DeedTest):

    def test_what_film_writes(self):
        found = 0
        for made, pictures, setting, leans in self.films_with_pictures():
            for k in range(len(leans)):
                if len(leans) == 1:
                    self.assert_error(Last, None, leave_out, made, k)
                    continue
                found += 1
                kept = [(pictures[n], leans[k] if lean == k else lean) for n, lean in enumerate(leans) if n != k]
                changed_leans = [lean - 1 if lean is not None and lean > k else lean for _, lean in kept]
                self.assert_same(leave_out(k=k, film=made), film([picture for picture, _ in kept], setting, changed_leans))
        self.assertGreater(found, 30)

    def test_leans(self):
        leans = (None, 0, 0, None, 3, 1)
        made = made_film(TWO_CELLS, leans, 3, 1)
        for k, expected in ((0, [None, None, None, 2, 0]), (1, [None, 0, None, 2, 0]), (2, [None, 0, None, 2, 1]),
                            (3, [None, 0, 0, None, 1]), (4, [None, 0, 0, None, 1]), (5, [None, 0, 0, None, 3])):
            self.assertEqual([lean for lean, _ in leave_out(made, k).frames], expected)

    def test_other_frames_keep_their_pieces(self):
        leans = (None, 0, 1, 1, 2, None, 5)
        for number, setting in enumerate(some_settings()):
            made = made_film(setting, leans, number, 1)
            for seed in range(3):
                other = spoilt_film(made, seed, [0, 4, 5, 6])
                result = leave_out(other, 1)
                self.assertEqual([lean for lean, _ in result.frames], [None, 0, 0, 1, None, 4])
                for new, old in ((0, 0), (3, 4), (4, 5), (5, 6)):
                    self.assertEqual(stream_told(result.frames[new][1]), stream_told(other.frames[old][1]))
                for new, old in enumerate((0, 2, 3, 4, 5, 6)):
                    self.assertEqual(frame_box(result, new).stretches(), frame_box(other, old).stretches())
                # On these no frame leans.
                for k in (3, 4, 6):
                    result = leave_out(spoilt_film(made, seed), k)
                    streams = [stream_told(stream) for _, stream in spoilt_film(made, seed).frames]
                    self.assertEqual([stream_told(stream) for _, stream in result.frames], streams[:k] + streams[k + 1:])

    def test_the_order_of_errors(self):
        setting = changed(TWO_CELLS, word="")
        whole = film([Picture((0, 2, 0, 1), [[[n, 0]]]) for n in (7, 14, 20, 2, 0)], setting, (None, 0, 1, 1 - 1, None))
        self.assertEqual([lean for lean, _ in whole.frames], [None, 0, 1, 0, None])
        one = film([FIRST], TWO_CELLS, [None])
        for made in (whole, one, Film(TWO_CELLS, [(None, empty(TWO_CELLS))])):
            for k in (-1, len(made.frames), 10 ** 20):
                self.assert_error(NoFrame, k, leave_out, made, k)
        for made in (one, Film(TWO_CELLS, [(None, empty(TWO_CELLS))])):
            self.assert_error(Last, None, leave_out, made, 0)
        # 7 + 7 and 7 + 6 are too great.
        for k in (0, 1):
            self.assert_error(TooFew, 3, leave_out, whole, k)
        for k, others in ((0, (0, 1, 3)), (1, (1, 2))):
            for spoiled in range(5):
                for other in (longer(whole.frames[spoiled][1]), broken(whole.frames[spoiled][1])):
                    made = with_streams(whole, {spoiled: other})
                    self.assert_error(Cut if spoiled in others else TooFew, 3, leave_out, made, k)
        for k in (2, 3, 4):
            made = with_streams(whole, {n: empty(setting) for n in range(5)})
            self.assertEqual(len(leave_out(made, k).frames), 4)

    def test_a_chain_behind_it_need_not_be_whole(self):
        made = made_film(TWO_CELLS, (None, 0, 1), 5, 1)
        other = with_streams(made, {0: empty(TWO_CELLS)})
        result = leave_out(other, 1)
        self.assertEqual(result.frames[0][1].pieces, [[], []])
        self.assertEqual(frame_box(result, 1).stretches(), frame_box(other, 2).stretches())


class AddFrameTest(DeedTest):

    def test_what_film_writes(self):
        for number, (setting, leans) in enumerate(film_settings()):
            pictures = some_pictures(setting, leans, number)
            for many in range(1, len(leans)):
                made = film(pictures[:many], setting, leans[:many])
                result = add_frame(lean=leans[many], picture=pictures[many], film=made)
                self.assert_same(result, film(pictures[:many + 1], setting, leans[:many + 1]))

    def test_other_frames_keep_their_pieces(self):
        leans = (None, 0, None, 2)
        for number, setting in enumerate(some_settings()):
            coefs, _ = some_frames(setting, leans + (1,), number)
            made = made_film(setting, leans, number)
            other = spoilt_film(made, number, [2, 3])
            before = film_told(other)
            picture = picture_of(coefs[4], setting)
            result = add_frame(other, picture, 1)
            self.assertEqual([stream_told(stream) for _, stream in result.frames[:4]],
                             [stream_told(stream) for _, stream in other.frames])
            self.assertEqual(told(frame_box(result, 4).nearest()), told(picture))
            self.assertEqual(film_told(other), before)

    def test_the_order_of_errors(self):
        wrong = Picture((1, 3, 0, 1), [[[99, 2]]])
        full = film([FIRST] * 8, TWO_CELLS, [None] * 8)
        for made in (full, with_streams(full, {0: empty(TWO_CELLS)})):
            for lean in (-1, 8, 10 ** 20):
                for picture in (FIRST, wrong, GREAT):
                    self.assert_error(BadField, "lean", add_frame, made, picture, lean)
        for lean in (0, 3):
            cut_film = with_streams(full, {lean: broken(full.frames[lean][1])})
            for picture in (FIRST, wrong, GREAT):
                self.assert_error(Cut, None, add_frame, cut_film, picture, lean)
            for picture in (wrong, Picture((0, 2, 0, 1), [[[99, 2]]] * 3)):
                self.assert_error(Unlike, None, add_frame, cut_film, picture, None)
        for picture in (FIRST, GREAT):
            for lean in (None, 0, 7):
                self.assert_error(TooMany, 8, add_frame, full, picture, lean)
        short = film([FIRST] * 7, TWO_CELLS, [None] * 7)
        for lean in (None, 0, 6):
            self.assert_error(TooFew, 3, add_frame, short, GREAT, lean)
            self.assertEqual(len(add_frame(short, FIRST, lean).frames), 8)
        self.assert_error(BadField, "lean", add_frame, short, FIRST, 7)
        chained = with_streams(film([FIRST] * 3, TWO_CELLS, [None, 0, 1]), {0: empty(TWO_CELLS)})
        self.assert_error(Cut, None, add_frame, chained, FIRST, 2)


class GlueTest(DeedTest):

    def test_what_film_writes(self):
        for number, setting in enumerate(some_settings()):
            for leans, others in (((None,), (None,)), ((None, 0), (None, 0, 1)), ((None, None, 1), (None, 0, None, 2, 0)),
                                  ((None,), (None, 0, 0, 0, 1, 2, 3))):
                one, other = some_pictures(setting, leans, number), some_pictures(setting, others, number + 50)
                expected = leans + tuple(None if lean is None else lean + len(leans) for lean in others)
                self.assert_same(glue(film(one, setting, leans), film(other, setting, others)),
                                 film(one + other, setting, expected))

    def test_films_that_are_not_whole(self):
        for number, setting in enumerate(some_settings()):
            one = spoilt_film(made_film(setting, LEANS[3], number), number)
            other = spoilt_film(made_film(setting, (None, 0, None, 1), number + 5), number)
            before = (film_told(one), film_told(other))
            result = glue(other=other, one=one)
            self.assertEqual([lean for lean, _ in result.frames], [None, 0, 1, None, 3, None, 4])
            self.assertEqual([stream_told(stream) for _, stream in result.frames], before[0][2] + before[1][2])
            self.assertEqual((film_told(one), film_told(other)), before)

    def test_unlike_ahead_of_too_many(self):
        full = film([FIRST] * 8, TWO_CELLS, [None] * 8)
        one = film([FIRST], TWO_CELLS, [None])
        for fields in ({"rect": (0, 2, 1, 2)}, {"tx": 2}, {"ty": 1}, {"word": ""}, {"layers": (4, 5)},
                       {"planes": 4, "layers": (12,)}, {"order": "BCLT"}, {"mode": 1}):
            other = Film(changed(TWO_CELLS, **fields), [(None, empty(changed(TWO_CELLS, **fields)))])
            for films in ((full, other), (other, full), (one, other)):
                self.assert_error(Unlike, None, glue, *films)
        for films in ((full, one), (one, full), (full, full)):
            self.assert_error(TooMany, 8, glue, *films)
        self.assertEqual(len(glue(film([FIRST] * 7, TWO_CELLS, [None] * 7), one).frames), 8)
        self.assertEqual(len(glue(one, one).frames), 2)


class NothingChangedTest(DeedTest):

    def test_films_that_are_handed_in(self):
        for number, setting in enumerate(some_settings()[:8]):
            made = made_film(setting, (None, 0, 1, None), number, 1)
            before = film_told(made)
            picture = coded_picture(setting, 3)
            picture_before = told(picture)
            for deed in (lambda one: film_lighten(one, 1), lambda one: relean(one, 2, 0), lambda one: leave_out(one, 1),
                         lambda one: add_frame(one, picture, None), lambda one: glue(one, one)):
                result = deed(made)
                expected = film_told(result)
                result.frames.append(1)
                result.frames[0] = (9, None)
                result.frames[0][1].pieces[0].append(1)
                self.assertEqual(film_told(result), expected)
                self.assertEqual(film_told(deed(made)), expected)
                self.assertEqual((film_told(made), told(picture)), (before, picture_before))

    def test_big_films(self):
        setting = changed(TWO_CELLS, rect=(-5, 27, 3, 35), tx=3, ty=3, word="XYX", mode=2, planes=12, layers=(9, 27))
        pictures = [some_picture(setting, seed, 90) for seed in range(3)]
        made = film(pictures, setting, (None, 0, 1))
        self.assert_same(leave_out(made, 1), film([pictures[0], pictures[2]], setting, (None, 0)))
        self.assertEqual(stream_told(relean(made, 2, None).frames[2][1]), stream_told(code(pictures[2], setting)))


if __name__ == "__main__":
    unittest.main()
