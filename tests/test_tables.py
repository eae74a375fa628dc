"""Tables: point [4]."""

import unittest

from narrowingbits.errors import Outside
from narrowingbits.tables import Table


class TableTest(unittest.TestCase):

    def test_new_tables(self):
        self.assertEqual(Table(2).counts, [1, 1])
        self.assertEqual(Table(2).total, 2)
        self.assertEqual(Table(m=3).counts, [1, 1, 1])
        self.assertEqual(Table(3).total, 3)

    def test_other_numbers_of_letters(self):
        for m in (-3, -2, -1, 0, 1, 4, 5, 2 ** 70):
            with self.assertRaises(Outside):
                Table(m)

    def test_learning_adds_two(self):
        table = Table(3)
        self.assertIsNone(table.learn(1))
        self.assertEqual(table.counts, [1, 3, 1])
        table.learn(j=2)
        table.learn(1)
        self.assertEqual(table.counts, [1, 5, 3])
        self.assertEqual(table.total, 9)

    def test_the_example(self):
        table = Table(2)
        for _ in range(31):
            table.learn(0)
        self.assertEqual((table.counts, table.total), ([63, 1], 64))
        table.learn(0)
        self.assertEqual((table.counts, table.total), ([33, 1], 34))

    def test_halving_three_counts(self):
        table = Table(3)
        for j in [0] * 15 + [1] * 10 + [2] * 5:
            table.learn(j)
        self.assertEqual((table.counts, table.total), ([31, 21, 11], 63))
        table.learn(1)
        self.assertEqual((table.counts, table.total), ([16, 12, 6], 34))

    def test_all_ways_of_learning_keep_to_the_rule(self):
        for m in (2, 3):
            table = Table(m)
            counts = [1] * m
            for step in range(1000):
                j = step * step // 5 % m
                table.learn(j)
                counts[j] += 2
                if sum(counts) > 64:
                    counts = [-(-count // 2) for count in counts]
                self.assertEqual(table.counts, counts)
                self.assertEqual(table.total, sum(counts))

    def test_letters_that_there_are_not(self):
        for m in (2, 3):
            table = Table(m)
            table.learn(0)
            before = table.counts
            for j in (-1, m, m + 1, -m, 99):
                with self.assertRaises(Outside):
                    table.learn(j)
                self.assertEqual(table.counts, before)

    def test_a_wrong_letter_halves_nothing(self):
        table = Table(2)
        for _ in range(31):
            table.learn(0)
        with self.assertRaises(Outside):
            table.learn(2)
        self.assertEqual(table.counts, [63, 1])

    def test_counts_are_new_at_each_call(self):
        table = Table(3)
        table.counts.append(9)
        table.counts[0] = 50
        self.assertEqual((table.counts, table.total), ([1, 1, 1], 3))

    def test_tables_are_their_own(self):
        one, other = Table(2), Table(2)
        one.learn(1)
        self.assertEqual(other.counts, [1, 1])


if __name__ == "__main__":
    unittest.main()
