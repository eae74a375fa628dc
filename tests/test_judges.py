"""Judging papers: point [30]."""

import itertools
import random
import unittest

from narrowingbits.boxes import Box
from narrowingbits.coefs import coefs_of
from narrowingbits.errors import BadDeed, Coloured, Outside
from narrowingbits.judges import judge
from narrowingbits.papers import make
from narrowingbits.pictures import Picture
from narrowingbits.settings import Setting
from narrowingbits.streams import code

from paper_reference import (bit_count, changed_cell, judged_by_words, off_of, paper_told, sample_of, small_boxes,
                             spans_of)
from picture_reference import cells_of, channel_count, members_of, strange_pictures, stream_told, told

TWO_CELLS = Setting((0, 2, 0, 1), 0, 1, 0, "X", 3, (9,), "LBTC")
EXAMPLE = code(Picture((0, 2, 0, 1), [[[5, 2]]]), TWO_CELLS)
COLOURS = code(Picture((0, 2, 0, 1), [[[1, 2]]] * 3), Setting((0, 2, 0, 1), 2, 1, 0, "X", 3, (9,), "LBTC"))
# How many things there are in each paper.
SIZES = {"in": 3, "end": 6, "gap": 7, "unsure": 7, "full": 4, "off": 6}
P, Q = (0, 0), (1, 0)


def candidates(stream, members):
    """Some members and some pictures that are none."""
    setting = stream.setting
    found = [members[0], members[-1], members[len(members) // 2], members[len(members) // 3]]
    cell = cells_of(setting.rect)[-1]
    found.append(changed_cell(members[0], channel_count(setting) - 1, cell, 1))
    found.append(changed_cell(members[-1], 0, cells_of(setting.rect)[0], -40))
    rows = [[[(low + 1, low + 1) for low, _ in row] for row in line] for line in
            [[[(number, number) for number in row] for row in line] for line in coefs_of(members[-1], setting)]]
    return found + members_of(Box(setting, rows))


class JudgeTest(unittest.TestCase):

    def assert_judged(self, stream, paper, members, found):
        expected = judged_by_words(paper, members)
        told_answer = judge(stream, paper)
        self.assertIs(told_answer, expected, paper_told(paper))
        found[paper[0], told_answer] = found.get((paper[0], told_answer), 0) + 1

    def test_the_example(self):
        """Band 0 known to be 3, band 1 in (-7, 7)."""
        def picture(one, other):
            return Picture((0, 2, 0, 1), [[[one, other]]])

        for paper, expected in (
                (("in", 6, picture(5, 2)), True), (("in", 6, picture(5, 3)), False), (("in", 12, picture(5, 2)), True),
                (("in", 12, picture(4, 3)), False), (("in", 0, picture(3, -2)), True),
                (("end", 6, 0, P, True, picture(7, 0)), True), (("end", 6, 0, P, True, picture(6, 0)), False),
                (("end", 6, 0, Q, False, picture(7, 0)), True), (("end", 6, 0, P, False, picture(7, 0)), False),
                (("gap", 6, 0, P, Q, True, picture(7, 0)), True), (("gap", 6, 0, Q, P, False, picture(7, 0)), True),
                (("gap", 6, 0, P, Q, False, picture(0, 7)), True), (("gap", 6, 0, P, P, True, picture(5, 2)), True),
                (("unsure", 6, 0, P, Q, picture(5, 2), picture(2, 5)), True),
                (("unsure", 6, 0, P, Q, picture(2, 5), picture(5, 2)), False),
                (("unsure", 6, 0, P, Q, picture(5, 2), picture(3, 3)), False),
                (("full", 6, picture(5, 2), picture(2, 5)), True), (("full", 6, picture(5, 2), picture(5, 2)), False),
                (("full", 6, picture(5, 2), picture(3, 3)), True),
                (("off", 6, 0, P, picture(4, 4), picture(0, 7)), True),
                (("off", 6, 0, P, picture(4, 4), picture(1, 6)), False),
                (("off", 6, 0, Q, picture(100, 100), picture(3, 3)), True),
                (("off", 6, 0, P, picture(4, 4), picture(8, 8)), False)):
            self.assertIs(judge(stream=EXAMPLE, paper=paper), expected, paper_told(paper))

    def test_against_all_members(self):
        found = {}
        source = random.Random(3)
        for stream, n, members in small_boxes():
            setting = stream.setting
            pictures = candidates(stream, members)
            cells = cells_of(setting.rect)
            channels = range(channel_count(setting))
            for picture in pictures:
                self.assert_judged(stream, ("in", n, picture), members, found)
            for one, other in itertools.product(pictures, pictures):
                self.assert_judged(stream, ("full", n, one, other), members, found)
            for _ in range(40):
                c, p, q, greatest = source.choice(channels), source.choice(cells), source.choice(cells), source.randrange(2) == 0
                one, other = source.choice(pictures), source.choice(pictures)
                self.assert_judged(stream, ("end", n, c, p, greatest, one), members, found)
                self.assert_judged(stream, ("off", n, c, p, one, other), members, found)
                if setting.mode != 2:
                    self.assert_judged(stream, ("gap", n, c, p, q, greatest, one), members, found)
                    self.assert_judged(stream, ("unsure", n, c, p, q, one, other), members, found)
        for word in SIZES:
            for answer in (True, False):
                self.assertGreater(found[word, answer], 20, (word, answer))

    def test_all_members_of_some_boxes(self):
        found = {}
        for stream, n, members in itertools.islice(small_boxes(), 0, None, 7):
            spans = spans_of(members)
            for (c, p), picture in itertools.product(spans, members):
                for greatest in (True, False):
                    self.assert_judged(stream, ("end", n, c, p, greatest, picture), members, found)
                    if stream.setting.mode != 2:
                        self.assert_judged(stream, ("gap", n, c, p, cells_of(picture.rect)[0], greatest, picture),
                                           members, found)
        self.assertEqual(len(found), 4)

    def test_papers_that_were_made_and_bent(self):
        found = {}
        for stream, n, members in small_boxes():
            setting = stream.setting
            c, p, q = channel_count(setting) - 1, cells_of(setting.rect)[-1], cells_of(setting.rect)[0]
            questions = [("in", ()), ("full", ()), ("end", (c, p, True)), ("end", (c, q, False)), ("off", (members[0],))]
            if setting.mode != 2:
                questions += [("gap", (c, p, q, True)), ("gap", (c, q, p, False)), ("unsure", (c, p, q))]
            for word, things in questions:
                paper = make(stream, word, n, things)
                if paper is None:
                    continue
                self.assertIs(judge(stream, paper), True)
                for at, thing in enumerate(paper):
                    if isinstance(thing, Picture):
                        for cell, by in ((p, 1), (q, -1), (p, 50)):
                            bent = paper[:at] + (changed_cell(thing, c, cell, by),) + paper[at + 1:]
                            self.assert_judged(stream, bent, members, found)
                        for strange in strange_pictures(thing):
                            self.assertIs(judge(stream, paper[:at] + (strange,) + paper[at + 1:]), False)
                    elif isinstance(thing, bool):
                        self.assert_judged(stream, paper[:at] + (not thing,) + paper[at + 1:], members, found)
                    elif isinstance(thing, tuple):
                        for cell in (p, q):
                            self.assert_judged(stream, paper[:at] + (cell,) + paper[at + 1:], members, found)
                if word in ("unsure", "full"):
                    self.assert_judged(stream, paper[:-2] + (paper[-1], paper[-2]), members, found)
        self.assertEqual(len(found), 12)

    def test_how_far_at_least(self):
        """A difference of just off is enough, one less is not, at any cell."""
        for stream, n, members in small_boxes():
            least = off_of(members)
            member = members[len(members) // 2]
            for c, p in spans_of(members):
                for by, expected in ((least, True), (least + 1, True), (-least, True), (least - 1, least == 0),
                                     (1 - least, least == 0)):
                    picture = changed_cell(member, c, p, by)
                    self.assertEqual(sample_of(picture, c, p) - sample_of(member, c, p), by)
                    self.assertIs(judge(stream, ("off", n, c, p, picture, member)), expected)


class ErrorsTest(unittest.TestCase):

    def assert_error(self, error, stream, *paper):
        with self.assertRaises(error, msg=paper):
            judge(stream, paper)

    def test_words_and_numbers_of_things(self):
        picture = Picture((0, 2, 0, 1), [[[5, 2]]])
        for stream in (EXAMPLE, COLOURS):
            self.assert_error(BadDeed, stream)
            for word in ("", "IN", "ends", "x", "sum", None, 5):
                for n in (0, -1):
                    self.assert_error(BadDeed, stream, word, n, picture)
            for word, many in SIZES.items():
                for other in range(1, 10):
                    if other != many:
                        self.assert_error(BadDeed, stream, word, *[-1] * (other - 1))

    def test_coloured_ahead_of_outside(self):
        picture = Picture((0, 2, 0, 1), [[[5, 2]]] * 3)
        strange = Picture((0, 2, 0, 1), [[[5, 2]]])
        for n in (0, -1, 10 ** 9):
            for c, p in ((0, P), (9, P), (0, (5, 5))):
                for one in (picture, strange):
                    self.assert_error(Coloured, COLOURS, "gap", n, c, p, Q, True, one)
                    self.assert_error(Coloured, COLOURS, "unsure", n, c, p, Q, one, picture)
        self.assertIs(judge(COLOURS, ("end", 0, 2, P, True, strange)), False)

    def test_outside_ahead_of_strange_pictures(self):
        picture = Picture((0, 2, 0, 1), [[[5, 2]]])
        for one in [picture] + strange_pictures(picture):
            for n in (-1, bit_count(EXAMPLE) + 1, 10 ** 20):
                for paper in (("in", n, one), ("end", n, 0, P, True, one), ("gap", n, 0, P, Q, False, one),
                              ("unsure", n, 0, P, Q, one, one), ("full", n, one, one), ("off", n, 0, P, one, one)):
                    self.assert_error(Outside, EXAMPLE, *paper)
            for n in (0, bit_count(EXAMPLE)):
                for c, p in ((-1, P), (1, P), (3, P), (0, (2, 0)), (0, (-1, 0)), (0, (0, 1)), (0, (0, -1)), (10 ** 20, P)):
                    self.assert_error(Outside, EXAMPLE, "end", n, c, p, True, one)
                    self.assert_error(Outside, EXAMPLE, "gap", n, c, p, Q, True, one)
                    self.assert_error(Outside, EXAMPLE, "gap", n, c, Q, p, True, one)
                    self.assert_error(Outside, EXAMPLE, "unsure", n, c, p, Q, one, one)
                    self.assert_error(Outside, EXAMPLE, "unsure", n, c, Q, p, one, one)
                    self.assert_error(Outside, EXAMPLE, "off", n, c, p, one, one)

    def test_strange_pictures_make_it_false(self):
        for stream in (EXAMPLE, COLOURS):
            member = Picture((0, 2, 0, 1), [[[1, 0]]] * channel_count(stream.setting))
            self.assertIs(judge(stream, ("in", 0, member)), True)
            for strange in strange_pictures(member):
                papers = [("in", 0, strange), ("end", 0, 0, P, True, strange), ("full", 0, strange, member),
                          ("full", 0, member, strange), ("off", 0, 0, P, strange, member),
                          ("off", 0, 0, P, member, strange)]
                if stream is EXAMPLE:
                    papers += [("gap", 0, 0, P, Q, True, strange), ("unsure", 0, 0, P, Q, strange, member),
                               ("unsure", 0, 0, P, Q, member, strange)]
                for paper in papers:
                    self.assertIs(judge(stream, paper), False)

    def test_nothing_is_changed(self):
        before = stream_told(EXAMPLE)
        paper = make(EXAMPLE, "unsure", 6, (0, P, Q))
        told_before = paper_told(paper)
        for _ in range(2):
            self.assertIs(judge(EXAMPLE, paper), True)
            self.assertEqual((paper_told(paper), stream_told(EXAMPLE)), (told_before, before))


if __name__ == "__main__":
    unittest.main()
