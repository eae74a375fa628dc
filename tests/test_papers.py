"""Making papers: point [30]."""

import itertools
import unittest

from narrowingbits.coefs import coefs_of
from narrowingbits.corners import corner, gap_corner
from narrowingbits.cutting import cut
from narrowingbits.errors import BadDeed, Coloured, Outside, Unlike
from narrowingbits.judges import judge
from narrowingbits.papers import make
from narrowingbits.pictures import Picture
from narrowingbits.reading import box_of
from narrowingbits.settings import Setting
from narrowingbits.streams import Stream, code

from paper_reference import (bit_count, changed_cell, difference_of, is_among, judged_by_words, off_of, paper_told,
                             sample_of, small_boxes, spans_of)
from picture_reference import (cells_of, channel_count, coded_picture, nearest_nought, some_settings, spoilt,
                               strange_pictures, stretch_table, stream_told, table_of, told)

TWO_CELLS = Setting((0, 2, 0, 1), 0, 1, 0, "X", 3, (9,), "LBTC")
EXAMPLE = code(Picture((0, 2, 0, 1), [[[5, 2]]]), TWO_CELLS)
COLOURS = code(Picture((0, 2, 0, 1), [[[1, 2]]] * 3), Setting((0, 2, 0, 1), 2, 1, 0, "X", 3, (9,), "LBTC"))
# How many things there are to each word.
GIVEN = {"in": 0, "end": 3, "gap": 4, "unsure": 3, "full": 0, "off": 1}


class MakeTest(unittest.TestCase):

    def assert_paper(self, paper, expected):
        self.assertIsInstance(paper, tuple)
        self.assertEqual(paper_told(paper), expected)

    def test_the_example(self):
        """Band 0 known to be 3, band 1 in (-7, 7): both samples have the ends (0, 7)."""
        p, q = (0, 0), (1, 0)
        rect = (0, 2, 0, 1)
        self.assert_paper(make(EXAMPLE, "in", 6), ("in", 6, (rect, [[[3, 3]]])))
        self.assert_paper(make(EXAMPLE, "end", 6, (0, p, True)), ("end", 6, 0, p, True, (rect, [[[7, 0]]])))
        self.assert_paper(make(EXAMPLE, "end", 6, (0, p, False)), ("end", 6, 0, p, False, (rect, [[[0, 7]]])))
        self.assert_paper(make(EXAMPLE, "gap", 6, (0, p, q, True)), ("gap", 6, 0, p, q, True, (rect, [[[7, 0]]])))
        self.assert_paper(make(EXAMPLE, "unsure", 6, (0, p, q)),
                          ("unsure", 6, 0, p, q, (rect, [[[7, 0]]]), (rect, [[[0, 7]]])))
        self.assert_paper(make(EXAMPLE, "full", 6), ("full", 6, (rect, [[[3, 3]]]), (rect, [[[0, 7]]])))
        picture = Picture(rect, [[[4, 4]]])
        paper = make(EXAMPLE, "off", 6, (picture,))
        self.assert_paper(paper, ("off", 6, 0, p, (rect, [[[4, 4]]]), (rect, [[[0, 7]]])))
        # All known: off is 0, the first cell of channel 0, the high end.
        self.assert_paper(make(EXAMPLE, "off", 12, [picture]),
                          ("off", 12, 0, p, (rect, [[[4, 4]]]), (rect, [[[5, 2]]])))
        self.assertIsNone(make(EXAMPLE, "full", 12))
        self.assertIsNone(make(EXAMPLE, "unsure", 12, (0, p, q)))
        self.assertIsNone(make(EXAMPLE, "unsure", 6, (0, p, p)))

    def test_members(self):
        for stream, n, members in small_boxes():
            box = box_of(cut(stream, n))
            paper = make(stream=stream, word="in", n=n)
            self.assert_paper(paper, ("in", n, told(box.nearest())))
            self.assertTrue(is_among(paper[2], members))
            self.assertEqual(paper_told(make(stream, "in", n, [])), paper_told(paper))

    def test_ends(self):
        for stream, n, members in small_boxes():
            box = box_of(cut(stream, n))
            for (c, p), (low, high) in spans_of(members).items():
                for greatest in (True, False):
                    paper = make(stream, "end", n, (c, p, greatest))
                    self.assert_paper(paper, ("end", n, c, p, greatest, told(corner(box, c, *p, greatest))))
                    self.assertTrue(is_among(paper[5], members))
                    self.assertEqual(sample_of(paper[5], c, p), high if greatest else low)
                    self.assertEqual(paper_told(make(stream, "end", n, things=[c, p, greatest])), paper_told(paper))

    def test_gaps_and_what_is_unsure(self):
        found = {True: 0, False: 0}
        for stream, n, members in small_boxes():
            if stream.setting.mode == 2:
                continue
            box = box_of(cut(stream, n))
            cells = cells_of(stream.setting.rect)
            for c, p, q in itertools.product(range(channel_count(stream.setting)), cells, cells):
                gaps = [difference_of(picture, c, p, q) for picture in members]
                corners = [gap_corner(box, c, p, q, greatest) for greatest in (True, False)]
                for greatest, picture in zip((True, False), corners):
                    paper = make(stream, "gap", n, (c, p, q, greatest))
                    self.assert_paper(paper, ("gap", n, c, p, q, greatest, told(picture)))
                    self.assertTrue(is_among(paper[6], members))
                    self.assertEqual(difference_of(paper[6], c, p, q), max(gaps) if greatest else min(gaps))
                paper = make(stream, "unsure", n, [c, p, q])
                is_unsure = min(gaps) < 0 < max(gaps)
                found[is_unsure] += 1
                if is_unsure:
                    self.assert_paper(paper, ("unsure", n, c, p, q, told(corners[0]), told(corners[1])))
                else:
                    self.assertIsNone(paper)
        self.assertGreater(min(found.values()), 30)

    def test_what_is_full(self):
        for stream, n, members in small_boxes():
            box = box_of(cut(stream, n))
            paper = make(stream, "full", n)
            if len(members) == 1:
                self.assertIsNone(paper)
                continue
            table = stretch_table(box)
            place = next(place for place, (low, high) in table.items() if low < high)
            numbers = {one: nearest_nought(stretch) for one, stretch in table.items()}
            low, high = table[place]
            numbers[place] = high if numbers[place] == low else low
            other = [picture for picture in members
                     if table_of(stream.setting, coefs_of(picture, stream.setting)) == numbers]
            self.assert_paper(paper, ("full", n, told(box.nearest()), told(other[0])))

    def test_how_far_a_picture_is_off(self):
        found = {}
        for stream, n, members in small_boxes():
            box = box_of(cut(stream, n))
            spans = spans_of(members)
            least = off_of(members)
            last = list(spans)[-1]
            pictures = [members[0], members[-1], members[len(members) // 2], box.nearest(),
                        Picture(box.setting.rect, [[[(sum(spans[c, (x, y)])) // 2 for x in range(*box.setting.rect[:2])]
                                                    for y in range(*box.setting.rect[2:])]
                                                   for c in range(channel_count(box.setting))])]
            pictures += [changed_cell(picture, *last, by) for picture in pictures for by in (-100, 3, 10 ** 30)]
            for picture in pictures:
                for (c, p), (low, high) in spans.items():
                    number = sample_of(picture, c, p)
                    if abs(high - number) >= least or abs(low - number) >= least:
                        break
                is_high = abs(high - number) >= least
                found[is_high, abs(low - number) >= least] = True
                paper = make(stream, "off", n, (picture,))
                self.assert_paper(paper, ("off", n, c, p, told(picture), told(corner(box, c, *p, is_high))))
                self.assertTrue(judged_by_words(paper, members))
                self.assertTrue(judge(stream, paper))
        self.assertEqual(len(found), 3)

    def test_papers_that_were_made_are_right(self):
        for number, setting in enumerate(some_settings()):
            stream = spoilt(code(coded_picture(setting, number), setting), number)
            many = bit_count(stream)
            cells = cells_of(setting.rect)
            p, q = cells[0], cells[-1]
            c = channel_count(setting) - 1
            for n in (0, many // 3, many - 1 if many else 0, many):
                papers = [make(stream, "in", n), make(stream, "full", n),
                          make(stream, "off", n, (coded_picture(setting, number + 1),))]
                papers += [make(stream, "end", n, (c, q, greatest)) for greatest in (True, False)]
                if setting.mode != 2:
                    papers += [make(stream, "gap", n, (c, p, q, greatest)) for greatest in (True, False)]
                    papers.append(make(stream, "unsure", n, (c, p, q)))
                for paper in papers:
                    self.assertTrue(paper is None or judge(stream, paper) is True)


class ErrorsTest(unittest.TestCase):

    def assert_error(self, error, *things):
        with self.assertRaises(error, msg=things):
            make(*things)

    def test_words_and_numbers_of_things(self):
        for stream in (EXAMPLE, COLOURS):
            for n in (0, -1, 10 ** 9):
                for word in ("", "IN", "ends", "end ", "offs", "total", "x", None, 7):
                    for things in ((), (0,), (0, (0, 0), True)):
                        self.assert_error(BadDeed, stream, word, n, things)
                for word, many in GIVEN.items():
                    for other in range(7):
                        if other != many:
                            self.assert_error(BadDeed, stream, word, n, (9,) * other)
                            self.assert_error(BadDeed, stream, word, n, [9] * other)

    def test_coloured_ahead_of_outside(self):
        p, q, wrong = (0, 0), (1, 0), (2, 0)
        for n in (0, -1, 10 ** 9):
            for c, one, other in ((0, p, q), (9, p, q), (0, wrong, wrong), (-1, wrong, q)):
                self.assert_error(Coloured, COLOURS, "gap", n, (c, one, other, True))
                self.assert_error(Coloured, COLOURS, "unsure", n, [c, one, other])
        self.assertIsInstance(make(COLOURS, "end", 0, (2, p, True)), tuple)

    def test_outside(self):
        p, q = (0, 0), (1, 0)
        picture = Picture((0, 2, 0, 1), [[[1, 1]]])
        for n in (-1, 13, 10 ** 20, -10 ** 20):
            for word, things in (("in", ()), ("full", ()), ("end", (0, p, True)), ("gap", (0, p, q, False)),
                                 ("unsure", (0, p, q)), ("off", (picture,)), ("off", strange_pictures(picture)[:1])):
                self.assert_error(Outside, EXAMPLE, word, n, things)
        for n in (0, 12):
            for c in (-1, 1, 3, 10 ** 20):
                self.assert_error(Outside, EXAMPLE, "end", n, (c, p, True))
                self.assert_error(Outside, EXAMPLE, "gap", n, (c, p, q, True))
                self.assert_error(Outside, EXAMPLE, "unsure", n, (c, p, q))
            for wrong in ((-1, 0), (2, 0), (0, -1), (0, 1), (10 ** 20, 0)):
                self.assert_error(Outside, EXAMPLE, "end", n, (0, wrong, False))
                for one, other in ((wrong, q), (p, wrong), (wrong, wrong)):
                    self.assert_error(Outside, EXAMPLE, "gap", n, (0, one, other, True))
                    self.assert_error(Outside, EXAMPLE, "unsure", n, (0, one, other))
        for c in range(3):
            self.assertIsInstance(make(COLOURS, "end", 0, (c, q, True)), tuple)
        self.assert_error(Outside, COLOURS, "end", 0, (3, q, True))

    def test_unlike(self):
        for stream in (EXAMPLE, COLOURS):
            picture = Picture((0, 2, 0, 1), [[[1, 1]]] * channel_count(stream.setting))
            self.assertIsInstance(make(stream, "off", 0, (picture,)), tuple)
            for strange in strange_pictures(picture):
                for n in (0, bit_count(stream)):
                    self.assert_error(Unlike, stream, "off", n, (strange,))
                self.assert_error(Outside, stream, "off", -1, (strange,))


class NothingChangedTest(unittest.TestCase):

    def test_what_is_handed_in(self):
        picture = Picture((0, 2, 0, 1), [[[1, 1]]])
        before = stream_told(EXAMPLE)
        for word, things in (("in", []), ("end", [0, (0, 0), True]), ("gap", [0, (0, 0), (1, 0), True]),
                             ("unsure", [0, (0, 0), (1, 0)]), ("full", []), ("off", [picture])):
            given = list(things)
            paper = make(EXAMPLE, word, 3, given)
            self.assertEqual(given, things)
            given.append(5)
            self.assertEqual(paper_told(make(EXAMPLE, word, 3, things)), paper_told(paper))
            self.assertEqual((stream_told(EXAMPLE), told(picture)), (before, ((0, 2, 0, 1), [[[1, 1]]])))

    def test_streams_without_bits(self):
        stream = Stream(TWO_CELLS, [[], []])
        for n, error in ((0, None), (1, Outside)):
            if error is None:
                self.assertEqual(paper_told(make(stream, "in", n)), ("in", 0, ((0, 2, 0, 1), [[[0, 0]]])))
            else:
                with self.assertRaises(error):
                    make(stream, "in", n)


if __name__ == "__main__":
    unittest.main()
