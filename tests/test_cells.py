"""Protected bits: points [28] and [29]."""

import itertools
import random
import unittest

from narrowingbits.cells import good, open_cells, protect
from narrowingbits.errors import BadBits, BadCells, Great, Outside

from cell_reference import (CELL, cell_of, cells_of_loads, data_numbers, flipped, group_of, loads_of, opened_by_words,
                            parity, protected_by_words, some_bits)
from head_reference import count_code

GROUPS = range(1, 9)
NO_BITS = (2, -1, None, "0", 1.5, [1])
# About multiples of 48, with the code of their number.
LENGTHS = (0, 1, 2, 3, 35, 36, 37, 38, 39, 40, 81, 82, 83, 84, 85, 86, 87, 129, 130, 131, 132, 300, 700)
# A bit for each of the eight neighbouring places.
BURSTS = [[at for at in range(8) if number >> at & 1] for number in range(1, 256)]


def joined(cells):
    return [bit for cell in cells for bit in cell]


def cells_with(loads, group):
    """The protected bits whose data cells have these loads."""
    return joined(cells_of_loads(loads, group))


class ProtectTest(unittest.TestCase):

    def test_no_bits(self):
        load = [1] + [0] * 47
        for group in GROUPS:
            self.assertEqual(protect([], group), (load + [1, 1, 1, 0, 1, 1, 0, 0]) * 2)

    def test_by_the_words_of_the_point(self):
        for length in LENGTHS:
            for group in GROUPS:
                bits = some_bits(length, group)
                before = list(bits)
                found = protect(group=group, bits=bits)
                self.assertEqual(found, protected_by_words(bits, group))
                self.assertEqual(len(found) % CELL, 0)
                found.append(1)
                self.assertEqual(protect(bits, group), protected_by_words(bits, group))
                self.assertEqual(bits, before)

    def test_lengths_are_about_multiples_of_48(self):
        sizes = {(len(count_code(length)) + length) % 48 for length in LENGTHS}
        self.assertTrue({0, 1, 46, 47} <= sizes, sizes)
        for group in (1, 3):
            # 48 - 11 bits and their code fill a cell; one more needs another one.
            self.assertEqual(len(protect([1] * 37, group)), 2 * CELL)
            self.assertEqual(len(protect([1] * 38, group)), (4 if group == 1 else 3) * CELL)

    def test_a_parity_cell_behind_each_group(self):
        for group in GROUPS:
            for count in range(1, 20):
                bits = [0] * (48 * count - 20)
                data = -(-(len(bits) + len(count_code(len(bits)))) // 48)
                self.assertEqual(len(protect(bits, group)), (data + -(-data // group)) * CELL)

    def test_the_order_of_errors(self):
        for thing in NO_BITS:
            for bits in ([thing], [0] * 50 + [thing], [0] * (10 ** 6) + [thing]):
                for group in (0, 1, 9):
                    with self.assertRaises(BadBits):
                        protect(bits, group)
        for group in (0, 3, 9, -1):
            with self.assertRaises(Great):
                protect([0] * (10 ** 6 + 1), group)
        for bits in ([], [1], [0] * 10 ** 6):
            for group in (0, -1, 9, 10 ** 20):
                with self.assertRaises(Outside):
                    protect(bits, group)

    def test_the_most_bits(self):
        bits = some_bits(10 ** 6)
        found = protect(bits, 8)
        self.assertEqual(found[:CELL * 9], cells_with(loads_of(bits)[:8], 8))
        self.assertEqual(open_cells(found, 8), bits)


class GoodTest(unittest.TestCase):

    def test_protected_bits(self):
        for length in LENGTHS:
            for group in GROUPS:
                protected = protect(some_bits(length), group)
                before = list(protected)
                found = good(group=group, protected=protected)
                self.assertEqual(found, [True] * (len(protected) // CELL))
                self.assertTrue(all(isinstance(one, bool) for one in found))
                self.assertEqual(protected, before)

    def assert_told(self, patterns):
        """That cells with these places flipped are not good; half of the cells stay as they are."""
        patterns = list(patterns)
        group = 3
        count = -(-2 * len(patterns) // 4) * 4
        protected = cells_with([some_bits(48, at) for at in range(count // 4 * 3)], group)
        flips = [(2 * number, place) for number, pattern in enumerate(patterns) for place in pattern]
        self.assertEqual(len(protected), count * CELL)
        expected = [not (number % 2 == 0 and number // 2 < len(patterns)) for number in range(count)]
        self.assertEqual(good(flipped(protected, flips), group), expected)

    def test_one_to_three_flipped_bits(self):
        self.assert_told([place] for place in range(CELL))
        self.assert_told(itertools.combinations(range(CELL), 2))
        self.assert_told(itertools.islice(itertools.combinations(range(CELL), 3), 0, None, 7))

    def test_flipped_bits_within_eight_places(self):
        self.assert_told([at + place for place in burst] for at in range(0, 49, 4) for burst in BURSTS)
        self.assert_told([48 + place for place in burst] for burst in BURSTS)

    def test_data_and_parity_cells(self):
        for group in GROUPS:
            protected = protect(some_bits(500), group)
            count = len(protected) // CELL
            for number in range(count):
                expected = [other != number for other in range(count)]
                for place in (0, 20, 47, 48, 55):
                    self.assertEqual(good(flipped(protected, [(number, place)]), group), expected)

    def test_damage_that_keeps_a_check_right(self):
        self.assertEqual(good([0] * CELL * 2, 1), [True, True])
        self.assertEqual(good(([1] + [0] * 47 + [1, 1, 1, 0, 1, 1, 0, 0]) + [0] * 48 + [0] * 7 + [1], 1), [True, False])


class FormTest(unittest.TestCase):
    """What good and open_cells refuse for both."""

    def test_what_is_no_bit(self):
        for thing in NO_BITS:
            for bits in ([thing], protect([1], 2) + [thing], [thing] + [0] * 111):
                for group in (0, 1, 2, 9):
                    for question in (good, open_cells):
                        with self.assertRaises(BadBits):
                            question(bits, group)

    def test_groups_ahead_of_sizes(self):
        for bits in ([], [0], protect([1], 2), [0] * 56):
            for group in (0, -1, 9, 10 ** 20):
                for question in (good, open_cells):
                    with self.assertRaises(Outside):
                        question(bits, group)

    def test_sizes(self):
        for group in GROUPS:
            for length in (0, 1, 48, 55, 57, 111, 113, 56 * 9 + 8):
                for question in (good, open_cells):
                    with self.assertRaises(BadCells):
                        question([0] * length, group)
            for count in range(1, 40):
                if count % (group + 1) == 1:
                    for question in (good, open_cells):
                        with self.assertRaises(BadCells):
                            question([0] * CELL * count, group)
                else:
                    self.assertEqual(good([0] * CELL * count, group), [True] * count)

    def test_other_groups_than_that_of_the_writer(self):
        protected = protect(some_bits(120), 2)
        self.assertEqual(len(protected), 5 * CELL)
        with self.assertRaises(BadCells):
            good(protected, 1)
        self.assertEqual(len(good(protected, 5)), 5)


class OpenTest(unittest.TestCase):

    def assert_opened(self, bits, group, flips):
        protected = flipped(protect(bits, group), flips)
        before = list(protected)
        bad = sorted({number for number, _ in flips})
        expected = opened_by_words(bits, group, bad)
        self.assertEqual(open_cells(group=group, protected=protected), expected)
        self.assertEqual(protected, before)
        return expected

    def test_without_damage(self):
        for length in LENGTHS:
            for group in GROUPS:
                self.assertEqual(self.assert_opened(some_bits(length, 3), group, []), some_bits(length, 3))

    def test_each_bit_flipped(self):
        for group in (1, 2, 3, 8):
            bits = some_bits(160, group)
            for at in range(len(protect(bits, group))):
                self.assertEqual(self.assert_opened(bits, group, [divmod(at, CELL)]), bits)

    def test_one_bad_cell_a_group_is_healed(self):
        source = random.Random(5)
        for group in GROUPS:
            bits = some_bits(1000, group)
            count = len(protect(bits, group)) // CELL
            for _ in range(20):
                bad = {}
                for number in range(count):
                    bad.setdefault(group_of(number, group), []).append(number)
                flips = []
                for numbers in bad.values():
                    number = source.choice(numbers)
                    if source.randrange(4) > 0:
                        flips += self.damage(source, number)
                self.assertEqual(self.assert_opened(bits, group, flips), bits)

    def damage(self, source, number):
        """One to three flipped bits, or bits within eight neighbouring places, of a cell."""
        if source.randrange(2) == 0:
            return [(number, place) for place in source.sample(range(CELL), source.randint(1, 3))]
        at = source.randint(0, 48)
        return [(number, at + place) for place in source.choice(BURSTS)]

    def test_more_bad_cells_give_none(self):
        source = random.Random(6)
        found = {"nothing": 0, "holes": 0, "all": 0}
        for group in GROUPS:
            for length in (30, 130, 700):
                bits = some_bits(length, group)
                count = len(protect(bits, group)) // CELL
                for _ in range(40):
                    numbers = source.sample(range(count), source.randint(1, min(4, count)))
                    flips = [flip for number in numbers for flip in self.damage(source, number)]
                    expected = self.assert_opened(bits, group, flips)
                    found["nothing" if expected is None else "holes" if None in expected else "all"] += 1
        self.assertGreater(min(found.values()), 50)

    def test_a_bad_parity_cell_and_a_bad_data_cell(self):
        bits = some_bits(48 * 4, 1)
        # Of the second group a data cell and the parity cell: just that data cell is unknown.
        expected = self.assert_opened(bits, 2, [(4, 0), (5, 7)])
        start = len(count_code(len(bits)))
        self.assertEqual(expected, bits[:48 * 3 - start] + [None] * 48 + bits[48 * 4 - start:])
        # Of the first group both data cells.
        self.assertIsNone(self.assert_opened(bits, 2, [(0, 0), (1, 7)]))
        self.assertIsNone(self.assert_opened(bits, 2, [(0, 0), (2, 7)]))
        self.assertEqual(self.assert_opened(bits, 2, [(1, 0), (2, 7)]).count(None), 48)

    def test_the_last_data_cell_unknown(self):
        """What fills it up is unknown then, and not looked at."""
        for group in GROUPS:
            bits = some_bits(48 * 3, 2)
            count = len(protect(bits, group)) // CELL
            data = data_numbers(count, group)
            last = data.index(max(number for number in data if number is not None))
            expected = self.assert_opened(bits, group, [(last, 1), (count - 1, 1)])
            if group_of(last, group) > 0:
                self.assertEqual(expected, bits[:len(expected) - expected.count(None)] + [None] * expected.count(None))
                self.assertIn(None, expected)

    def test_great_counts(self):
        for group in (1, 4):
            for count in (10 ** 6 + 1, 2 ** 20 - 2, 2 ** 20 - 1, 2 ** 20, 2 ** 23 - 2):
                load = (count_code(count) + [0] * 48)[:48]
                for loads in ([load], [load, [0] * 48], [load] * 4):
                    with self.assertRaises(BadCells):
                        open_cells(cells_with(loads, group), group)
            for zeros in (20, 21, 23, 24, 30, 40, 41, 47):
                for rest in ([1] + [0] * (47 - zeros), [1] * (48 - zeros), [0] * (48 - zeros)):
                    with self.assertRaises(BadCells):
                        open_cells(cells_with([[0] * zeros + rest, [0] * 48], group), group)

    def test_counts_that_need_other_numbers_of_cells(self):
        for group in GROUPS:
            for length in (0, 5, 37, 38, 40, 84, 85, 300):
                loads = loads_of([0] * length)
                self.assertEqual(open_cells(cells_with(loads, group), group), [0] * length)
                for other in (loads + [[0] * 48], loads + [[0] * 48] * 5, loads[:-1], loads[:1]):
                    if 0 < len(other) != len(loads):
                        with self.assertRaises(BadCells):
                            open_cells(cells_with(other, group), group)
            with self.assertRaises(BadCells):
                open_cells(cells_with(loads_of([0] * 10 ** 6)[:30], group), group)

    def test_filling_bits_that_are_not_0(self):
        for group in GROUPS:
            for length in (0, 5, 36, 38, 60, 150):
                loads = loads_of([0] * length)
                used = (length + len(count_code(length)) - 1) % 48 + 1
                for at in range(used, 48):
                    last = list(loads[-1])
                    last[at] = 1
                    with self.assertRaises(BadCells):
                        open_cells(cells_with(loads[:-1] + [last], group), group)

    def test_filling_bits_that_are_unknown(self):
        loads = loads_of([0] * 150)
        last = loads[-1][:-1] + [1]
        cells = cells_of_loads(loads[:-1] + [last], 2)
        self.assertEqual(len(cells), 6)
        # The second group has two bad cells, its last data cell among them.
        protected = flipped(joined(cells), [(4, 9), (5, 9)])
        self.assertEqual(open_cells(protected, 2).count(None), 150 + len(count_code(150)) - 144)
        # Healed, it is known.
        for flips in ([(4, 9)], [(3, 9)], [(5, 9)], []):
            with self.assertRaises(BadCells):
                open_cells(flipped(joined(cells), flips), 2)

    def test_the_first_cell_unknown_ahead_of_wrong_counts(self):
        for loads in ([[0] * 48], [[0] * 48] * 3, loads_of([0] * 100)[:1] + [[1] * 48] * 4):
            for group in GROUPS:
                protected = cells_with(loads, group)
                count = len(protected) // CELL
                second = min(group, count - 1)
                self.assertIsNone(open_cells(flipped(protected, [(0, 3), (second, 50)]), group))
                with self.assertRaises(BadCells):
                    open_cells(flipped(protected, [(0, 3)]), group)

    def test_what_is_returned_is_new(self):
        bits = some_bits(100)
        protected = protect(bits, 3)
        for question in (open_cells, good):
            found = question(protected, 3)
            expected = list(found)
            found.clear()
            self.assertEqual(question(protected, 3), expected)
        self.assertEqual(cell_of(parity(loads_of(bits))), protected[-CELL:])


if __name__ == "__main__":
    unittest.main()
