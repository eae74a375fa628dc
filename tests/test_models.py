"""Lines, planes, passes: point [8]."""

import itertools
import unittest

from narrowingbits.errors import BadGrid, Outside
from narrowingbits.models import LineModel
from narrowingbits.tables import Table

from line_reference import (SIZES, cells_of, letters_by_the_point, numbers_of, some_lines,
                            stretch_by_the_point)


class ExamplesTest(unittest.TestCase):

    def test_one_cell_with_three(self):
        model = LineModel((0, 1, 0, 1), 3)
        told = []
        for letter in (0, 1, 1):
            told.append((model.pass_number, model.wanted()))
            self.assertIsNone(model.take(letter))
        self.assertEqual(told, [(2, (0, 3, (0, 0))), (5, (0, 3, (0, 0))), (7, (3, 2, (0, 0)))])
        self.assertIsNone(model.wanted())
        self.assertEqual(model.pass_number, 9)
        self.assertEqual(model.stretches(), [[(3, 3)]])

    def test_two_cells_side_by_side(self):
        model = LineModel((0, 2, 0, 1), 1)
        self.assertEqual((model.pass_number, model.wanted()), (2, (0, 3, (0, 0))))
        model.take(1)
        self.assertEqual((model.pass_number, model.wanted()), (2, (1, 3, (1, 0))))
        model.take(0)
        self.assertIsNone(model.wanted())
        self.assertEqual(model.stretches(), [[(1, 1), (0, 0)]])

    def test_a_neighbour_goes_to_near_in_the_next_plane(self):
        model = LineModel((0, 3, 0, 1), 2)
        for letter in (0, 0, 2):
            self.assertEqual(model.pass_number, 2)
            model.take(letter)
        self.assertEqual((model.pass_number, model.wanted()), (3, (1, 3, (1, 0))))
        model.take(1)
        self.assertEqual((model.pass_number, model.wanted()), (4, (3, 2, (2, 0))))
        model.take(1)
        self.assertEqual((model.pass_number, model.wanted()), (5, (1, 3, (0, 0))))
        model.take(0)
        self.assertEqual(model.stretches(), [[(0, 0), (1, 1), (-3, -3)]])
        self.assertEqual(model.pass_number, 6)

    def test_a_cell_that_becomes_nonzero_keeps_its_pass(self):
        model = LineModel((0, 2, 0, 1), 2)
        model.take(1)
        model.take(1)
        told = []
        for letter in (0, 1):
            told.append((model.pass_number, model.wanted()))
            model.take(letter)
        self.assertEqual(told, [(4, (3, 2, (0, 0))), (4, (3, 2, (1, 0)))])
        self.assertEqual(model.stretches(), [[(2, 2), (3, 3)]])

    def test_the_fifth_table(self):
        model = LineModel((4, 5, -1, 0), 4)
        told = []
        for letter in (2, 0, 1, 0):
            told.append((model.pass_number, model.wanted()))
            model.take(letter)
        self.assertEqual(told, [(2, (0, 3, (4, -1))), (4, (3, 2, (4, -1))), (7, (4, 2, (4, -1))),
                                (10, (4, 2, (4, -1)))])
        self.assertEqual(model.stretches(), [[(-10, -10)]])

    def test_at_most_two_neighbours_count(self):
        model = LineModel((0, 3, 0, 3), 1)
        numbers = []
        for _ in range(9):
            numbers.append(model.wanted()[0])
            model.take(1)
        self.assertEqual(numbers, [0, 1, 1, 1, 2, 2, 1, 2, 2])
        model = LineModel((0, 3, 0, 3), 2)
        for letter in (0, 1, 0, 1, 0, 1, 0, 1, 0):
            model.take(letter)
        self.assertEqual(model.wanted(), (2, 3, (0, 0)))
        model.take(0)
        model.take(0)
        self.assertEqual(model.wanted(), (2, 3, (1, 1)))


class WalkTest(unittest.TestCase):

    def test_order_tables_and_counts(self):
        for rect, planes, rows in some_lines():
            model = LineModel(rect, planes)
            tables = [Table(size) for size in SIZES]
            for q, table, cell, letter in letters_by_the_point(rect, planes, rows):
                self.assertEqual(model.pass_number, q)
                self.assertEqual(model.wanted(), (table, SIZES[table], cell))
                self.assertEqual(model.wanted_counts(), tables[table].counts)
                model.take(letter)
                tables[table].learn(letter)
            self.assertIsNone(model.wanted())
            self.assertEqual(model.wanted_counts(), [])
            self.assertEqual(model.pass_number, 3 * planes)

    def test_each_cell_has_one_letter_in_each_plane(self):
        for rect, planes, rows in some_lines():
            found = letters_by_the_point(rect, planes, rows)
            self.assertEqual(len(found), planes * len(cells_of(rect)))

    def test_stretches_behind_each_letter(self):
        for rect, planes, rows in some_lines():
            if planes > 5:
                continue
            model = LineModel(rect, planes)
            numbers = numbers_of(rect, rows)
            told = {cell: planes for cell in numbers}
            for q, _, cell, letter in letters_by_the_point(rect, planes, rows):
                self.check_stretches(model, rect, numbers, told)
                model.take(letter)
                told[cell] = planes - 1 - q // 3
            self.check_stretches(model, rect, numbers, told)
            self.assertEqual(model.stretches(), [[(v, v) for v in row] for row in rows])

    def check_stretches(self, model, rect, numbers, told):
        x0, x1, y0, y1 = rect
        expected = [[stretch_by_the_point(numbers[x, y], told[x, y]) for x in range(x0, x1)]
                    for y in range(y0, y1)]
        self.assertEqual(model.stretches(), expected)

    def test_all_small_numbers(self):
        for planes in (1, 2, 3, 4):
            for v in range(1 - 2 ** planes, 2 ** planes):
                model = LineModel((9, 10, 9, 10), planes)
                for q, table, cell, letter in letters_by_the_point((9, 10, 9, 10), planes, [[v]]):
                    self.assertEqual(model.wanted(), (table, SIZES[table], cell))
                    model.take(letter)
                    p = planes - 1 - q // 3
                    self.assertEqual(model.stretches(), [[stretch_by_the_point(v, p)]])


class FormTest(unittest.TestCase):

    def test_ahead_of_the_first_letter(self):
        for planes in (1, 2, 20):
            end = 2 ** planes - 1
            model = LineModel(rect=(-2, 0, 3, 6), planes=planes)
            self.assertEqual(model.stretches(), [[(-end, end)] * 2] * 3)
            self.assertEqual(model.wanted(), (0, 3, (-2, 3)))
            self.assertEqual(model.wanted_counts(), [1, 1, 1])
            self.assertEqual(model.pass_number, 2)

    def test_rects_without_cells(self):
        for rect in ((0, 0, 0, 0), (3, 3, 0, 4), (0, 4, -2, -2)):
            for planes in (1, 7, 20):
                model = LineModel(rect, planes)
                self.assertIsNone(model.wanted())
                self.assertEqual(model.wanted_counts(), [])
                self.assertEqual(model.stretches(), [])
                self.assertEqual(model.pass_number, 3 * planes)
                for letter in (0, 1, 2):
                    with self.assertRaises(Outside):
                        model.take(letter)
                self.assertEqual(model.pass_number, 3 * planes)

    def test_rects_turned_about(self):
        for rect in ((1, 0, 0, 1), (0, 1, 1, 0), (1, 0, 0, 0)):
            for planes in (3, 0, 21):
                with self.assertRaises(BadGrid):
                    LineModel(rect, planes)

    def test_other_numbers_of_planes(self):
        for rect in ((0, 1, 0, 1), (0, 0, 0, 0)):
            for planes in (-1, 0, 21, 22):
                with self.assertRaises(Outside):
                    LineModel(rect, planes)

    def test_kinds(self):
        model = LineModel((0, 1, 0, 1), 1)
        self.assertIsInstance(model.wanted(), tuple)
        self.assertIsInstance(model.wanted_counts(), list)
        self.assertIsInstance(model.stretches()[0][0], tuple)


class TakeTest(unittest.TestCase):

    def state(self, model):
        return (model.pass_number, model.wanted(), model.wanted_counts(), model.stretches())

    def test_letters_that_may_not_come(self):
        for rect, planes, rows in itertools.islice(some_lines(), 0, None, 3):
            model = LineModel(rect, planes)
            for _, table, _, letter in letters_by_the_point(rect, planes, rows)[:40]:
                before = self.state(model)
                for wrong in (-1, SIZES[table], SIZES[table] + 1, -2):
                    with self.assertRaises(Outside):
                        model.take(wrong)
                    self.assertEqual(self.state(model), before)
                model.take(letter=letter)

    def test_letters_behind_the_last_one(self):
        model = LineModel((0, 1, 0, 1), 1)
        model.take(1)
        before = self.state(model)
        for letter in (0, 1, 2, -1, 3):
            with self.assertRaises(Outside):
                model.take(letter)
            self.assertEqual(self.state(model), before)

    def test_asking_changes_nothing(self):
        model = LineModel((0, 3, 0, 2), 2)
        for letter in (0, 1, 0, 0, 2, 0):
            before = self.state(model)
            self.assertEqual(self.state(model), before)
            model.take(letter)

    def test_told_lists_are_new_each_time(self):
        model = LineModel((0, 2, 0, 2), 2)
        model.take(1)
        before = self.state(model)
        model.wanted_counts().append(9)
        model.wanted_counts()[0] = 50
        model.stretches().append([])
        model.stretches()[0][0] = (5, 5)
        model.stretches()[1].append((5, 5))
        self.assertEqual(self.state(model), before)

    def test_models_are_their_own(self):
        one, other = LineModel((0, 2, 0, 1), 2), LineModel((0, 2, 0, 1), 2)
        before = self.state(other)
        one.take(1)
        one.take(2)
        self.assertEqual(self.state(other), before)


if __name__ == "__main__":
    unittest.main()
