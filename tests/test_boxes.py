"""Boxes: points [1] and [15]."""

import itertools
import random
import unittest

from narrowingbits.boxes import Box
from narrowingbits.coefs import coefs_of, picture_of
from narrowingbits.errors import BadGrid, Unlike
from narrowingbits.pictures import Picture
from narrowingbits.settings import Setting

from picture_reference import (box_told, changed, filled_rows, members_of, nearest_nought, product, some_box,
                               some_picture, some_settings, told)

TWO_CELLS = Setting((0, 2, 0, 1), 0, 1, 0, "X", 3, (9,), "LBTC")
THREE_CELLS = Setting((-1, 2, 0, 1), 0, 1, 0, "X", 3, (9,), "LBTC")
ROWS = [[[(3, 3)]], [[(-7, 7)]]]


def whole_number_of(sizes):
    return product([high - low + 1 for low, high in sizes])


def flat(rows):
    return [stretch for line in rows for row in line for stretch in row]


def other_geometries(setting):
    """Settings of other geometries; some of them have the same lines."""
    x0, x1, y0, y1 = setting.rect
    found = [changed(setting, rect=(x0 + 64, x1 + 64, y0, y1)), changed(setting, rect=(x0, x1, y0 - 64, y1 - 64)),
             changed(setting, mode=(setting.mode + 1) % 3), changed(setting, mode=(setting.mode + 2) % 3),
             changed(setting, ty=setting.ty + 1), changed(setting, tx=setting.tx + 1)]
    return found + [changed(setting, tx=5, ty=5, word=setting.word + "Y")]


class FormTest(unittest.TestCase):

    def test_attributes(self):
        box = Box(TWO_CELLS, ROWS)
        self.assertIs(box.setting, TWO_CELLS)
        self.assertEqual(box.stretches(), ROWS)
        self.assertEqual(Box(rows=ROWS, setting=TWO_CELLS).stretches(), ROWS)

    def test_all_forms(self):
        for setting in some_settings():
            numbers = itertools.count(-5)
            rows = filled_rows(setting, lambda: (next(numbers), 10 ** 30))
            self.assertEqual(Box(setting, rows).stretches(), rows)

    def test_other_numbers_of_lines(self):
        for rows in ([], ROWS[:1], ROWS + [[]], ROWS + [[[(0, 0)]]], ROWS * 2):
            with self.assertRaises(BadGrid):
                Box(TWO_CELLS, rows)
        for mode in (1, 2):
            with self.assertRaises(BadGrid):
                Box(changed(TWO_CELLS, mode=mode), ROWS)
            self.assertEqual(Box(changed(TWO_CELLS, mode=mode), ROWS * 3).stretches(), ROWS * 3)

    def test_other_forms_of_rows(self):
        fit = [[[(1, 2)]], [], [[(3, 3)]], [[(-7, 7)]]]
        self.assertEqual(Box(THREE_CELLS, fit).stretches(), fit)
        for number, line in itertools.product(range(4), (
                [[]], [[(1, 2), (1, 2)]], [[(1, 2)], [(1, 2)]], [[], []], [[(1, 2)], []])):
            rows = [list(row) for row in fit]
            rows[number] = line
            with self.assertRaises(BadGrid, msg=rows):
                Box(THREE_CELLS, rows)
        for number in range(4):
            rows = [list(row) for row in fit]
            rows[number] = [[(0, 0)]] if number == 1 else []
            with self.assertRaises(BadGrid, msg=rows):
                Box(THREE_CELLS, rows)

    def test_lines_and_rows_of_other_kinds(self):
        for line in (5, None, "ab", {}, [5], [None], [(1, 2)], [{}], ["a"], (1, 2)):
            for rows in ([line, [[(0, 0)]]], [[[(0, 0)]], line]):
                with self.assertRaises(BadGrid, msg=line):
                    Box(TWO_CELLS, rows)

    def test_other_forms_of_stretches(self):
        for stretch in ((1, 0), (-3, -4), (10 ** 30, 0), (1,), (1, 2, 3), (), 5, None, "ab"):
            for rows in ([[[stretch]], [[(0, 0)]]], [[[(0, 0)]], [[stretch]]]):
                with self.assertRaises(BadGrid, msg=stretch):
                    Box(TWO_CELLS, rows)

    def test_what_is_handed_in_or_out_may_be_changed(self):
        rows = [[[(3, 3)]], [[(-7, 7)]]]
        box = Box(TWO_CELLS, rows)
        self.assertEqual(rows, ROWS)
        rows[0][0][0] = (4, 4)
        rows[1].append([])
        rows.pop()
        for spoil in (lambda told_rows: told_rows[0][0].append((1, 1)), lambda told_rows: told_rows[1].clear(),
                      lambda told_rows: told_rows.clear()):
            spoil(box.stretches())
            self.assertEqual(box.stretches(), ROWS)
        self.assertEqual(box.members(), 15)


class MembersTest(unittest.TestCase):

    def test_the_example_of_point_16(self):
        self.assertEqual(Box(TWO_CELLS, ROWS).members(), 15)

    def test_the_number_of_members(self):
        for seed, setting in enumerate(some_settings()):
            box = some_box(setting, seed)
            self.assertEqual(box.members(), whole_number_of(flat(box.stretches())))
            pictures = [told(picture) for picture in members_of(box)]
            self.assertEqual(len(pictures), box.members())
            wide = Box(setting, filled_rows(setting, lambda: (-10 ** 20, 10 ** 20)))
            self.assertEqual(wide.members(), (2 * 10 ** 20 + 1) ** len(flat(box.stretches())))

    def test_has(self):
        for seed, setting in enumerate(some_settings()):
            box = some_box(setting, seed, 60)
            for picture in members_of(box):
                self.assertIs(box.has(picture), True)
                self.assertIs(picture in box, True)
                self.assertIs(picture not in box, False)

    def test_has_not(self):
        for seed, setting in enumerate(some_settings()):
            box = some_box(setting, seed)
            for picture in self.just_outside(box):
                self.assertIs(box.has(picture), False)
                self.assertIs(picture in box, False)

    def just_outside(self, box):
        """Pictures with one coef that is beyond its stretch by 1."""
        for number, (low, high) in enumerate(flat(box.stretches())):
            for worth in (low - 1, high + 1):
                lows = iter([stretch[0] for stretch in flat(box.stretches())])
                places = itertools.count()
                rows = filled_rows(box.setting, lambda: (worth, next(lows))[next(places) != number])
                yield picture_of(rows, box.setting)

    def test_has_by_coefs(self):
        found = []
        for setting in some_settings():
            box = Box(setting, filled_rows(setting, lambda: (-2, 3)))
            for number in range(40):
                picture = some_picture(setting, number, 2 + number % 2)
                inside = all(-2 <= worth <= 3 for worth in flat(coefs_of(picture, setting)))
                self.assertIs(box.has(picture=picture), inside)
                self.assertIs(picture in box, inside)
                found.append(inside)
        self.assertTrue(100 < found.count(True) < len(found) - 100)

    def test_pictures_that_do_not_fit(self):
        box = Box(TWO_CELLS, ROWS)
        for picture in (Picture((1, 3, 0, 1), [[[5, 2]]]), Picture((0, 2, 0, 1), [[[5, 2]]] * 3),
                        Picture((0, 1, 0, 1), [[[5]]])):
            with self.assertRaises(Unlike):
                box.has(picture)
            with self.assertRaises(Unlike):
                picture in box


class TwoBoxesTest(unittest.TestCase):

    def pairs(self):
        """Boxes of one geometry, the other one with some stretches moved, narrower or, at most two, wider."""
        source = random.Random(3)
        for seed, setting in enumerate(some_settings()):
            other = changed(setting, planes=1, layers=(1, 2), order="TLCB")
            for many in range(12):
                rows = some_box(setting, seed, 40).stretches()
                places = range(len(flat(rows)))
                moves = {source.choice(places): (source.randint(-1, 0), source.randint(0, 1)) for _ in range(2)}
                moves.update({source.choice(places): source.choice(((1, 1), (-1, -1), (0, -1), (1, 0)))
                              for _ in range(many % 4)})
                numbers = itertools.count()
                moved = [[[self.moved(stretch, moves.get(next(numbers), (0, 0))) for stretch in row]
                          for row in line] for line in rows]
                yield Box(setting, rows), Box(other, moved)

    def moved(self, stretch, by):
        low = stretch[0] + by[0]
        return (low, max(low, stretch[1] + by[1]))

    def members(self, box):
        """The coefs of all members; each of them is that of just one picture."""
        return set(itertools.product(*[range(low, high + 1) for low, high in flat(box.stretches())]))

    def test_inside(self):
        found = []
        for one, other in self.pairs():
            members, others = self.members(one), self.members(other)
            self.assertIs(one.inside(other), members <= others)
            self.assertIs(other.inside(one), others <= members)
            self.assertIs(one.inside(one), True)
            found.append(one.inside(other))
        self.assertIn(True, found)
        self.assertIn(False, found)

    def test_meet(self):
        found = []
        for one, other in self.pairs():
            both = self.members(one) & self.members(other)
            for box, beside in ((one, other), (other, one)):
                met = box.meet(beside)
                self.assertEqual(met is None, not both)
                if met is not None:
                    self.assertIsInstance(met, Box)
                    self.assertEqual(self.members(met), both)
                    self.assertIs(met.setting, box.setting)
            found.append(both == set())
        self.assertIn(True, found)
        self.assertIn(False, found)

    def test_nothing_is_changed(self):
        one, other = Box(TWO_CELLS, ROWS), Box(TWO_CELLS, [[[(2, 4)]], [[(0, 99)]]])
        met = one.meet(other=other)
        self.assertEqual(met.stretches(), [[[(3, 3)]], [[(0, 7)]]])
        self.assertIs(one.inside(other=other), False)
        self.assertEqual(box_told(one), box_told(Box(TWO_CELLS, ROWS)))
        self.assertEqual(other.stretches(), [[[(2, 4)]], [[(0, 99)]]])

    def test_at_the_ends(self):
        one = Box(TWO_CELLS, [[[(0, 3)]], [[(5, 5)]]])
        for stretch, met in (((3, 9), [[[(3, 3)]], [[(5, 5)]]]), ((4, 9), None), ((-9, 0), [[[(0, 0)]], [[(5, 5)]]]),
                             ((-9, -1), None)):
            other = Box(TWO_CELLS, [[[stretch]], [[(0, 9)]]])
            for box in (one.meet(other), other.meet(one)):
                self.assertEqual(box and box.stretches(), met)

    def test_other_geometries(self):
        for setting in some_settings():
            box = Box(setting, filled_rows(setting, lambda: (0, 1)))
            for geometry in other_geometries(setting):
                other = Box(geometry, filled_rows(geometry, lambda: (0, 1)))
                for call in (box.inside, box.meet):
                    with self.assertRaises(Unlike):
                        call(other)
                for call in (other.inside, other.meet):
                    with self.assertRaises(Unlike):
                        call(box)

    def test_other_words_of_the_same_lines(self):
        one = Setting((0, 2, 0, 2), 0, 1, 1, "XY", 3, (9,), "LBTC")
        boxes = [Box(setting, filled_rows(setting, lambda: (0, 1))) for setting in (one, changed(one, word="YX"))]
        for box, other in (boxes, boxes[::-1]):
            with self.assertRaises(Unlike):
                box.inside(other)
            with self.assertRaises(Unlike):
                box.meet(other)


class NearestTest(unittest.TestCase):

    def test_each_coef(self):
        stretches = itertools.cycle(((3, 9), (-9, -4), (-2, 5), (0, 4), (-4, 0), (7, 7), (1, 1), (-1, -1)))
        for setting in some_settings():
            for _ in range(3):
                next(stretches)
                box = Box(setting, filled_rows(setting, lambda: next(stretches)))
                picture = box.nearest()
                self.assertIsInstance(picture, Picture)
                expected = [[[nearest_nought(stretch) for stretch in row] for row in line] for line in box.stretches()]
                self.assertEqual(coefs_of(picture, setting), expected)
                self.assertIn(picture, box)


if __name__ == "__main__":
    unittest.main()
