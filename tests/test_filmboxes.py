"""Boxes of frames and chains: point [25]."""

import itertools
import unittest

from narrowingbits.bounds import sample, samples, widest
from narrowingbits.boxes import Box
from narrowingbits.coefs import coefs_of, picture_of
from narrowingbits.errors import NoFrame
from narrowingbits.filmboxes import chain, frame_box, frame_boxes
from narrowingbits.films import coefs_of_frame, film
from narrowingbits.gaps import gap, surely
from narrowingbits.guesses import guess, off
from narrowingbits.pictures import Picture
from narrowingbits.reading import box_of
from narrowingbits.settings import Setting
from narrowingbits.totals import total

from film_reference import (LEANS, TWO_CELLS, bits_of_film, combined, cut_by_words, film_settings, film_told,
                            front_of, made_film, spoilt_film)
from picture_reference import box_told, cells_of, changed, fields_of, members_of, numbers_within, told

# By the leans (None, 0, 0, None, 3, 1) and (None, 0, None, 2, 1, 0, 3, None).
CHAINS = {LEANS[4]: [[0], [1, 0], [2, 0], [3], [4, 3], [5, 1, 0]],
          LEANS[6]: [[0], [1, 0], [2], [3, 2], [4, 1, 0], [5, 0], [6, 3, 2], [7]],
          LEANS[5]: [list(range(n, -1, -1)) for n in range(8)]}


def summed_stretches(boxes):
    """The sums of the stretches of boxes, low ends and high ends."""
    total_rows = boxes[0].stretches()
    for box in boxes[1:]:
        total_rows = [[[(a + c, b + d) for (a, b), (c, d) in zip(row, other)] for row, other in zip(line, lines)]
                      for line, lines in zip(total_rows, box.stretches())]
    return total_rows


class ChainTest(unittest.TestCase):

    def test_chains(self):
        for leans, chains in CHAINS.items():
            made = made_film(TWO_CELLS, leans, 3)
            for n, numbers in enumerate(chains):
                self.assertEqual(chain(made, n), numbers)
                found = chain(n=n, film=made)
                self.assertIsInstance(found, list)
                found.append(9)
                self.assertEqual(chain(made, n), numbers)
                self.assertEqual(chain(spoilt_film(made, 1), n), numbers)

    def test_no_frame(self):
        for leans in LEANS:
            made = spoilt_film(made_film(TWO_CELLS, leans, 3), 2)
            for n in (-1, len(leans), len(leans) + 1, -10 ** 20, 10 ** 20, 8):
                for question in (chain, frame_box):
                    with self.assertRaises(NoFrame) as caught:
                        question(made, n)
                    self.assertEqual(caught.exception.number, n)


class FrameBoxTest(unittest.TestCase):

    def test_the_example(self):
        made = film([Picture((0, 2, 0, 1), [[[5, 2]]]), Picture((0, 2, 0, 1), [[[6, 2]]])], TWO_CELLS, [None, 0])
        box = frame_box(made, 1)
        self.assertIsInstance(box, Box)
        self.assertEqual(box.stretches(), [[[(4, 4)]], [[(4, 4)]]])
        self.assertEqual(told(box.nearest()), ((0, 2, 0, 1), [[[6, 2]]]))
        # The second stream's last piece is not there: 3 in the key, -7 to 7 in what leans on it.
        shorter = cut_by_words(made, len(bits_of_film(made)) - len(front_of(made)) - len(made.frames[1][1].pieces[1]))
        self.assertEqual(frame_box(shorter, 1).stretches(), [[[(4, 4)]], [[(-4, 10)]]])

    def test_sums_of_stretches(self):
        for number, (setting, leans) in enumerate(film_settings()):
            made = made_film(setting, leans, number)
            many = len(bits_of_film(made)) - len(front_of(made))
            for other in (made, cut_by_words(made, many // 3), cut_by_words(made, many * 3 // 4),
                          spoilt_film(made, number), spoilt_film(made, number + 50)):
                before = film_told(other)
                for n in range(len(leans)):
                    boxes = [box_of(other.frames[k][1]) for k in chain(other, n)]
                    box = frame_box(film=other, n=n)
                    self.assertEqual(fields_of(box.setting), fields_of(setting))
                    self.assertEqual(box.stretches(), summed_stretches(boxes))
                    self.assertEqual(box_told(frame_boxes(other)[n]), box_told(box))
                    box.stretches()[0].append(1)
                self.assertEqual(film_told(other), before)

    def test_whole_films(self):
        for number, (setting, leans) in enumerate(film_settings()):
            made = made_film(setting, leans, number)
            for n in range(len(leans)):
                box = frame_box(made, n)
                self.assertEqual(box.members(), 1)
                self.assertEqual(coefs_of(box.nearest(), setting), coefs_of_frame(made, n))


class QuestionsTest(unittest.TestCase):
    """Questions about boxes of frames against all their members."""

    def films(self):
        """Films of one-letter tiles that are cut so far that their frames have a few members."""
        for mode, leans in ((0, (None, 0)), (0, (None, 0, 1)), (2, (None, 0)), (1, (None, 0))):
            setting = Setting((-1, 1, 0, 2), mode, 1, 1, "Y" if mode else "XY", 2, (2, 4), "LBTC")
            made = made_film(setting, leans, mode + 3)
            many = len(bits_of_film(made)) - len(front_of(made))
            for n in range(many, 0, -1):
                shorter = cut_by_words(made, n)
                if max(frame_box(shorter, k).members() for k in range(len(leans))) > 700:
                    break
                yield shorter
        setting = changed(TWO_CELLS, planes=2, layers=(6,))
        made = made_film(setting, (None, 0, 1), 8)
        yield spoilt_film(made, 1)
        yield spoilt_film(made, 2)

    def test_members_are_sums(self):
        found = 0
        for made in self.films():
            setting = made.setting
            for n in range(len(made.frames)):
                box = frame_box(made, n)
                if not 1 < box.members() <= 60:
                    continue
                boxes = [box_of(made.frames[k][1]) for k in chain(made, n)]
                sums = {}
                for parts in itertools.product(*[list(numbers_within(one.stretches())) for one in boxes]):
                    rows = parts[0]
                    for part in parts[1:]:
                        rows = combined(rows, part, 1)
                    sums[str(rows)] = rows
                pictures = {str(told(picture_of(rows, setting))) for rows in sums.values()}
                self.assertEqual(pictures, {str(told(picture)) for picture in members_of(box)})
                self.assertEqual(len(pictures), box.members())
                found += 1
        self.assertGreater(found, 10)

    def test_samples_gaps_and_totals(self):
        found = 0
        for made in self.films():
            rect, mode = made.setting.rect, made.setting.mode
            cells = cells_of(rect)
            for n in range(len(made.frames)):
                box = frame_box(made, n)
                members = [picture.channels for picture in members_of(box)]
                found += len(members) > 1
                spans = {}
                for c in range(len(members[0])):
                    for x, y in cells:
                        numbers = [rows[c][y - rect[2]][x - rect[0]] for rows in members]
                        spans[c, x, y] = (min(numbers), max(numbers))
                        self.assertEqual(sample(box, c, x, y), spans[c, x, y])
                        self.assertEqual(samples(box)[c][y - rect[2]][x - rect[0]], spans[c, x, y])
                        self.assertEqual(guess(box).channels[c][y - rect[2]][x - rect[0]], sum(spans[c, x, y]) // 2)
                    if mode != 2:
                        totals = [sum(sum(row) for row in rows[c]) for rows in members]
                        self.assertLessEqual(total(box, c)[0], min(totals))
                        self.assertEqual(total(box, c), (min(totals), max(totals)))
                        for p, q in itertools.product(cells, cells):
                            gaps = [rows[c][p[1] - rect[2]][p[0] - rect[0]] - rows[c][q[1] - rect[2]][q[0] - rect[0]]
                                    for rows in members]
                            self.assertEqual(gap(box, c, p, q), (min(gaps), max(gaps)))
                            self.assertEqual(surely(box, c, p, q), min(gaps) > 0)
                self.assertEqual(widest(box), max(high - low for low, high in spans.values()))
                self.assertEqual(off(box), max((high - low + 1) // 2 for low, high in spans.values()))
        self.assertGreater(found, 20)


if __name__ == "__main__":
    unittest.main()
