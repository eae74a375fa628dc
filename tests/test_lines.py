"""Layers and pieces of a line: point [9]."""

import itertools
import unittest

from narrowingbits.errors import BadBits, BadGrid, Outside, TooFew
from narrowingbits.lines import code_line, read_line, states
from narrowingbits.models import LineModel

from line_reference import letters_by_the_point, pieces_by_the_point, some_lines

CELL = (0, 1, 0, 1)
TURNED = ((1, 0, 0, 1), (0, 1, 1, 0), (1, 0, 0, 0))
NO_LAYERS = ([], [10], [8], [3, 3], [9, 1], [0, 9], [9, 0], [-1, 10], [4, 0, 5], [1, 1, 1, 1, 1, 1, 3],
             [2, 2, 2, 1, 1, 1, 0], [1] * 9, [-9], [18, -9])


def divisions(planes):
    """Some rows of layers."""
    total = 3 * planes
    found = [(total,), (1, total - 1), (total - 1, 1)]
    if total >= 6:
        found += [(1, 1, 1, 1, 1, total - 5), (total - 5, 1, 1, 1, 1, 1), (3, total - 3), (2, 2, total - 4)]
    return found


def told(model):
    return (model.pass_number, model.wanted(), model.wanted_counts(), model.stretches())


def behind_letters(rect, planes, rows, many):
    """The model behind so many letters of the line."""
    model = LineModel(rect, planes)
    for _, _, _, letter in letters_by_the_point(rect, planes, rows)[:many]:
        model.take(letter)
    return model


def letters_ahead(rect, planes, layers, rows, number):
    """How many letters there are in the layers ahead of one."""
    stop = sum(layers[:number])
    return len([row for row in letters_by_the_point(rect, planes, rows) if row[0] < stop])


class CodeLineTest(unittest.TestCase):

    def test_examples(self):
        self.assertEqual(code_line(CELL, 3, (9,), [[3]]), [[0, 0, 1, 1, 1, 1]])
        self.assertEqual(code_line(CELL, 1, (2, 1), [[0]]), [[], [0, 0]])

    def test_by_the_words_of_the_point(self):
        for rect, planes, rows in some_lines():
            for layers in divisions(planes):
                expected = pieces_by_the_point(rect, planes, layers, rows)
                self.assertEqual(code_line(rect, planes, layers, rows), expected)

    def test_layers_as_a_list_and_as_a_tuple(self):
        rows = [[3, -1], [0, 2]]
        for layers in ([9], [1, 8], [2, 3, 4]):
            one = code_line((0, 2, 0, 2), 3, layers, rows)
            self.assertEqual(code_line((0, 2, 0, 2), 3, tuple(layers), rows), one)
            self.assertEqual(len(one), len(layers))

    def test_the_node_begins_anew_and_the_tables_do_not(self):
        # Plane 2: letter 0 by table 0. Planes 1 and 0: letter 0 by the table that learned, each from
        # the root: counts 3, 1, 1 and 5, 1, 1, whose letter 0 fills 3 / 5 and 5 / 7 of the whole.
        self.assertEqual(code_line(CELL, 3, (3, 3, 3), [[0]]), [[0, 0], [0], [0]])

    def test_rects_without_cells(self):
        for rect in ((0, 0, 0, 0), (2, 2, 0, 5), (0, 5, 2, 2)):
            self.assertEqual(code_line(rect, 2, (1, 2, 3), []), [[], [], []])

    def test_names_of_arguments(self):
        pieces = code_line(rows=[[3]], layers=[9], planes=3, rect=CELL)
        self.assertEqual(pieces, [[0, 0, 1, 1, 1, 1]])
        self.assertEqual(read_line(pieces=pieces, layers=[9], planes=3, rect=CELL).stretches(), [[(3, 3)]])
        self.assertEqual(states(pieces=pieces, layers=[9], planes=3, rect=CELL), ["exact"])

    def test_too_few_planes(self):
        for planes in (1, 2, 3, 20):
            for number in (2 ** planes, -2 ** planes, 2 ** planes + 1, 10 ** 30, -10 ** 30):
                for rows in ([[number, 0]], [[0, number]]):
                    with self.assertRaises(TooFew) as caught:
                        code_line((0, 2, 0, 1), planes, (3 * planes,), rows)
                    self.assertEqual(caught.exception.planes, planes)
            end = 2 ** planes - 1
            pieces = code_line((0, 2, 0, 1), planes, (3 * planes,), [[end, -end]])
            line = read_line((0, 2, 0, 1), planes, (3 * planes,), pieces)
            self.assertEqual(line.stretches(), [[(end, end), (-end, -end)]])

    def test_rows_that_do_not_fit(self):
        for rows in ([], [[1]], [[1, 2, 3]], [[1, 2], [3, 4]], [[]], [[99]]):
            with self.assertRaises(BadGrid):
                code_line((0, 2, 0, 1), 3, (9,), rows)
        for rows in ([[]], [[1]], [[], []]):
            with self.assertRaises(BadGrid):
                code_line((0, 0, 0, 2), 3, (9,), rows)

    def test_rows_ahead_of_too_few(self):
        with self.assertRaises(BadGrid):
            code_line((0, 2, 0, 1), 1, (3,), [[99, 99, 99]])

    def test_nothing_handed_in_is_changed_and_what_is_told_is_new(self):
        rows, layers = [[3]], [4, 5]
        before = code_line(CELL, 3, layers, rows)
        code_line(CELL, 3, layers, rows)[1].append(1)
        self.assertEqual(code_line(CELL, 3, layers, rows), before)
        self.assertEqual((rows, layers), ([[3]], [4, 5]))


class CommonErrorsTest(unittest.TestCase):
    """What all three functions refuse, ahead of rows and pieces."""

    def refused(self, error, rect, planes, layers):
        for call in (code_line, read_line, states):
            for last in ([], [[2]], [[9, 9]]):
                for form in (list(layers), tuple(layers)):
                    with self.assertRaises(error, msg=(rect, planes, layers)):
                        call(rect, planes, form, last)

    def test_rects_turned_about(self):
        for rect in TURNED:
            for planes, layers in ((3, [9]), (0, [9]), (3, [1])):
                self.refused(BadGrid, rect, planes, layers)

    def test_other_planes(self):
        for planes in (-1, 0, 21):
            for layers in ([3 * planes], [9], []):
                self.refused(Outside, CELL, planes, layers)

    def test_other_layers(self):
        for layers in NO_LAYERS:
            self.refused(Outside, CELL, 3, layers)
            self.refused(Outside, (0, 0, 0, 0), 3, layers)

    def test_layers_at_their_ends(self):
        for planes, layers in ((1, [3]), (1, [1, 1, 1]), (2, [1] * 6), (20, [60]), (20, [10] * 6),
                               (20, [55, 1, 1, 1, 1, 1])):
            pieces = code_line(CELL, planes, layers, [[1]])
            self.assertEqual(states(CELL, planes, layers, pieces), ["exact"] * len(layers))


class ReadLineTest(unittest.TestCase):

    def test_the_prefixes_of_the_example(self):
        piece = [0, 0, 1, 1, 1, 1]
        ends = [(-7, 7), (-7, 7), (-3, 3), (-3, 3), (-3, 3), (2, 3), (3, 3)]
        for length in range(7):
            line = read_line(CELL, 3, (9,), [piece[:length]])
            self.assertEqual(line.stretches(), [[ends[length]]])

    def test_what_is_written_is_read(self):
        for rect, planes, rows in some_lines():
            for layers in divisions(planes):
                pieces = code_line(rect, planes, layers, rows)
                for form in (list(layers), layers):
                    line = read_line(rect, planes, form, pieces)
                    self.assertIsInstance(line, LineModel)
                    self.assertEqual(line.stretches(), [[(v, v) for v in row] for row in rows])
                    self.assertIsNone(line.wanted())

    def test_pieces_cut_at_every_bit(self):
        rect, planes, rows = (-1, 2, 0, 2), 3, [[5, 0, -7], [1, 2, -3]]
        for layers in divisions(planes):
            pieces = code_line(rect, planes, layers, rows)
            for number, piece in enumerate(pieces):
                letters = letters_ahead(rect, planes, layers, rows, number)
                behind = letters_ahead(rect, planes, layers, rows, number + 1)
                for length in range(len(piece)):
                    cut = pieces[:number] + [piece[:length]] + pieces[number + 1:]
                    line = read_line(rect, planes, layers, cut)
                    many = self.taken(line, rect, planes, rows)
                    self.assertTrue(letters <= many < behind)
                    letters = many
                    self.assertEqual(told(line), told(behind_letters(rect, planes, rows, many)))

    def taken(self, line, rect, planes, rows):
        """How many letters of the line the model has taken."""
        count = 0
        model = LineModel(rect, planes)
        for _, _, _, letter in letters_by_the_point(rect, planes, rows):
            if (model.pass_number, model.wanted()) == (line.pass_number, line.wanted()):
                return count
            model.take(letter)
            count += 1
        return count

    def test_bits_behind_a_whole_layer_are_ignored(self):
        rect, planes, rows, layers = (0, 2, 0, 1), 2, [[1, -3]], (3, 3)
        pieces = code_line(rect, planes, layers, rows)
        for behind in ([0], [1], [1, 0, 1], [1] * 60):
            for changed in ([pieces[0] + behind, pieces[1]], [pieces[0], pieces[1] + behind],
                            [pieces[0] + behind, pieces[1] + behind]):
                line = read_line(rect, planes, layers, changed)
                self.assertEqual(line.stretches(), [[(1, 1), (-3, -3)]])

    def test_what_stands_behind_a_short_piece_is_passed_over(self):
        rect, planes, rows, layers = (0, 2, 0, 1), 2, [[1, -3]], (3, 2, 1)
        pieces = code_line(rect, planes, layers, rows)
        for short in ([], pieces[0][:-1]):
            alone = told(read_line(rect, planes, layers, [short, [], []]))
            for behind in itertools.product(([], [1], pieces[1], [0] * 30), repeat=2):
                line = read_line(rect, planes, layers, [short] + list(behind))
                self.assertEqual(told(line), alone)

    def test_any_lists_of_bits_are_read(self):
        rect = (0, 2, 0, 2)
        for seed in range(200):
            pieces = [[(seed * k * k + seed // 3 + k) // 5 % 2 for k in range(seed % (7 + number))]
                      for number in range(3)]
            line = read_line(rect, 2, (2, 1, 3), pieces)
            for row in line.stretches():
                for low, high in row:
                    self.assertTrue(-3 <= low <= high <= 3)

    def test_bad_bits(self):
        for call in (read_line, states):
            for wrong in (2, -1, 10, None, "1"):
                for pieces in ([[wrong], []], [[], [wrong]], [[0, 0, 1, wrong], []], [[], [0, wrong]]):
                    with self.assertRaises(BadBits):
                        call(CELL, 3, (4, 5), pieces)

    def test_bad_bits_ahead_of_the_number_of_pieces(self):
        for call in (read_line, states):
            for pieces in ([[2]], [[], [], [2]], [[0], [1], [0], [7]]):
                with self.assertRaises(BadBits):
                    call(CELL, 3, (4, 5), pieces)

    def test_other_numbers_of_pieces(self):
        for call in (read_line, states):
            for pieces in ([], [[]], [[], [], []], [[0, 1]], [[0, 0, 1, 1, 1, 1]]):
                with self.assertRaises(BadGrid):
                    call(CELL, 3, (4, 5), pieces)

    def test_nothing_handed_in_is_changed(self):
        pieces, layers = [[0, 0, 1, 1, 1, 1], [1]], [4, 5]
        line = read_line(CELL, 3, layers, pieces)
        states(CELL, 3, layers, pieces)
        self.assertEqual((pieces, layers), ([[0, 0, 1, 1, 1, 1], [1]], [4, 5]))
        before = told(line)
        pieces[0].clear()
        layers.clear()
        self.assertEqual(told(line), before)

    def test_lines_are_new_at_each_call(self):
        one, other = (read_line(CELL, 3, (9,), [[0, 0]]) for _ in range(2))
        before = told(other)
        one.take(1)
        self.assertEqual(told(other), before)


class StatesTest(unittest.TestCase):

    def test_what_is_written_is_exact(self):
        for rect, planes, rows in some_lines():
            for layers in divisions(planes):
                pieces = code_line(rect, planes, layers, rows)
                self.assertEqual(states(rect, planes, layers, pieces), ["exact"] * len(layers))
                self.assertEqual(states(rect, planes, list(layers), pieces), ["exact"] * len(layers))

    def test_cut_pieces_are_short_and_others_behind(self):
        rect, planes, rows, layers = (0, 2, 0, 2), 3, [[5, -7], [1, 0]], (3, 2, 4)
        pieces = code_line(rect, planes, layers, rows)
        for number, piece in enumerate(pieces):
            for length in range(len(piece)):
                for behind in (pieces[number + 1:], [[]] * (2 - number), [[1, 0, 1]] * (2 - number)):
                    cut = pieces[:number] + [piece[:length]] + behind
                    expected = ["exact"] * number + ["short"] + ["behind"] * (2 - number)
                    self.assertEqual(states(rect, planes, layers, cut), expected)

    def test_longer_pieces_are_over(self):
        rect, planes, rows, layers = (0, 2, 0, 2), 3, [[5, -7], [1, 0]], (3, 2, 4)
        pieces = code_line(rect, planes, layers, rows)
        for number, piece in enumerate(pieces):
            for more in ([0], [1], [0, 0], [1, 1, 1], [0] * 40):
                changed = pieces[:number] + [piece + more] + pieces[number + 1:]
                expected = ["exact"] * number + ["over"] + ["exact"] * (2 - number)
                self.assertEqual(states(rect, planes, layers, changed), expected)

    def test_reading_goes_on_behind_an_over_piece(self):
        rect, planes, rows, layers = (0, 2, 0, 2), 3, [[5, -7], [1, 0]], (3, 2, 4)
        pieces = code_line(rect, planes, layers, rows)
        over = [pieces[0] + [1], pieces[1][:-1], pieces[2]]
        self.assertEqual(states(rect, planes, layers, over), ["over", "short", "behind"])
        over = [pieces[0] + [0], pieces[1] + [0], []]
        self.assertEqual(states(rect, planes, layers, over), ["over", "over", "short"])

    def test_all_small_pieces_of_one_cell(self):
        for planes, layers in ((1, (3,)), (2, (6,)), (2, (3, 3))):
            exact = [code_line(CELL, planes, layers, [[v]]) for v in range(1 - 2 ** planes, 2 ** planes)]
            for length in range(9):
                for row in itertools.product((0, 1), repeat=length):
                    self.check_first_piece(planes, layers, list(row), exact)

    def check_first_piece(self, planes, layers, piece, exact):
        pieces = [piece] + [[]] * (len(layers) - 1)
        found = states(CELL, planes, layers, pieces)
        model = read_line(CELL, planes, layers, pieces)
        if model.wanted() is not None and model.pass_number < layers[0]:
            self.assertEqual(found, ["short"] + ["behind"] * (len(layers) - 1))
        elif piece in [one[0] for one in exact]:
            self.assertEqual(found, ["exact"] + ["short"] * (len(layers) - 1))
        else:
            self.assertEqual(found, ["over"] + ["short"] * (len(layers) - 1))

    def test_a_number_that_is_not_the_least_one(self):
        for planes, v, piece, other in ((1, 1, "011", "100"), (2, -2, "1011", "1100"),
                                        (3, 3, "001111", "010000"), (3, 7, "10011", "10100")):
            piece, other = [int(sign) for sign in piece], [int(sign) for sign in other]
            layers = (3 * planes,)
            self.assertEqual(code_line(CELL, planes, layers, [[v]]), [piece])
            for bits, state in ((piece, "exact"), (other, "over")):
                self.assertEqual(read_line(CELL, planes, layers, [bits]).stretches(), [[(v, v)]])
                self.assertEqual(states(CELL, planes, layers, [bits]), [state])

    def test_layers_without_letters(self):
        self.assertEqual(states(CELL, 1, (2, 1), [[], [0, 0]]), ["exact", "exact"])
        self.assertEqual(states(CELL, 1, (2, 1), [[0], [0, 0]]), ["over", "exact"])
        self.assertEqual(states(CELL, 1, (2, 1), [[1, 1, 1], [0]]), ["over", "short"])
        self.assertEqual(states(CELL, 1, (2, 1), [[], []]), ["exact", "short"])
        self.assertEqual(read_line(CELL, 1, (2, 1), [[1, 0, 1], [0, 0]]).stretches(), [[(0, 0)]])

    def test_layers_without_letters_behind_a_short_piece(self):
        # The cell becomes nonzero in the first plane, so its letter of the second one is SHARPER.
        pieces = code_line(CELL, 2, (3, 1, 1, 1), [[3]])
        self.assertEqual((pieces[1], pieces[3]), ([], []))
        self.assertEqual(states(CELL, 2, (3, 1, 1, 1), pieces), ["exact"] * 4)
        pieces[3] = [0]
        self.assertEqual(states(CELL, 2, (3, 1, 1, 1), pieces), ["exact", "exact", "exact", "over"])
        pieces[2] = []
        self.assertEqual(states(CELL, 2, (3, 1, 1, 1), pieces), ["exact", "exact", "short", "behind"])
        pieces[3] = []
        self.assertEqual(states(CELL, 2, (3, 1, 1, 1), pieces), ["exact", "exact", "short", "behind"])
        pieces[0] = []
        self.assertEqual(states(CELL, 2, (3, 1, 1, 1), pieces), ["short", "behind", "behind", "behind"])

    def test_rects_without_cells(self):
        for rect in ((0, 0, 0, 0), (2, 2, 0, 5), (0, 5, 2, 2)):
            self.assertEqual(states(rect, 1, (1, 1, 1), [[], [], []]), ["exact"] * 3)
            self.assertEqual(states(rect, 1, (1, 1, 1), [[0], [], [1]]), ["over", "exact", "over"])
            self.assertEqual(read_line(rect, 1, (1, 1, 1), [[0], [], [1]]).stretches(), [])

    def test_new_at_each_call(self):
        states(CELL, 3, (9,), [[]]).append("exact")
        self.assertEqual(states(CELL, 3, (9,), [[]]), ["short"])


if __name__ == "__main__":
    unittest.main()
