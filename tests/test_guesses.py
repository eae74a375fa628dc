"""Guesses: point [16]."""

import unittest

from narrowingbits.bounds import samples
from narrowingbits.boxes import Box
from narrowingbits.guesses import guess, off
from narrowingbits.pictures import Picture
from narrowingbits.settings import Setting

from picture_reference import box_told, members_of, some_box, some_settings

TWO_CELLS = Setting((0, 2, 0, 1), 0, 1, 0, "X", 3, (9,), "LBTC")
EXAMPLE = Box(TWO_CELLS, [[[(3, 3)]], [[(-7, 7)]]])


def samples_of(picture):
    return [number for rows in picture.channels for row in rows for number in row]


def farthest(picture, members):
    """How far some sample of some member is from the picture's."""
    return max(abs(number - other) for member in members for number, other in zip(samples_of(picture), samples_of(member)))


class GuessTest(unittest.TestCase):

    def test_the_example(self):
        told = guess(EXAMPLE)
        self.assertIsInstance(told, Picture)
        self.assertEqual((told.rect, told.channels), ((0, 2, 0, 1), [[[3, 3]]]))
        self.assertEqual(off(EXAMPLE), 4)

    def test_by_the_ends_of_samples(self):
        for setting in some_settings():
            for seed in range(10):
                box = some_box(setting, seed)
                ends = samples(box)
                expected = [[[(low + high) // 2 for low, high in row] for row in rows] for rows in ends]
                self.assertEqual((guess(box).rect, guess(box).channels), (setting.rect, expected))
                self.assertEqual(off(box), max((high - low + 1) // 2 for rows in ends for row in rows for low, high in row))

    def test_against_all_members(self):
        for setting in some_settings():
            for seed in range(4):
                box = some_box(setting, seed, 100)
                self.assertEqual(farthest(guess(box), members_of(box)), off(box))

    def test_no_picture_is_nearer(self):
        for setting in some_settings():
            box = some_box(setting, 7, 100)
            members = members_of(box)
            # Whatever stands in each cell: the ends of the widest sample are both reached by members.
            for c, rows in enumerate(guess(box).channels):
                for y, row in enumerate(rows):
                    for x, number in enumerate(row):
                        worths = [member.channels[c][y][x] for member in members]
                        own = max(abs(worth - number) for worth in worths)
                        for other in range(min(worths) - 1, max(worths) + 2):
                            self.assertLessEqual(own, max(abs(worth - other) for worth in worths))
                        self.assertLessEqual(own, off(box))

    def test_one_member(self):
        for seed, setting in enumerate(some_settings()):
            box = some_box(setting, seed, 1)
            self.assertEqual(guess(box).channels, members_of(box)[0].channels)
            self.assertEqual(off(box), 0)

    def test_odd_and_even_widths_below_0(self):
        setting = Setting((0, 1, 0, 1), 0, 0, 0, "", 3, (9,), "LBTC")
        for stretch, number, worst in (((-3, 0), -2, 2), ((-3, -1), -2, 1), ((-4, -3), -4, 1), ((5, 5), 5, 0),
                                       ((-10 ** 30, 10 ** 30 + 1), 0, 10 ** 30 + 1)):
            box = Box(setting, [[[stretch]]])
            self.assertEqual(guess(box).channels, [[[number]]])
            self.assertEqual(off(box), worst)

    def test_names_of_arguments_and_nothing_is_changed(self):
        before = box_told(EXAMPLE)
        guess(box=EXAMPLE).channels[0][0][0] = 99
        self.assertEqual(guess(EXAMPLE).channels, [[[3, 3]]])
        self.assertEqual(off(box=EXAMPLE), 4)
        self.assertEqual(box_told(EXAMPLE), before)


if __name__ == "__main__":
    unittest.main()
