"""Nodes and their ends: point [5]."""

import unittest

from narrowingbits.errors import Outside
from narrowingbits.ranges import ROOT, Ranger, end_of, next_node

COUNTS = ([1, 1], [1, 1, 1], [3, 1], [1, 63], [63, 1], [1, 62, 1], [62, 1, 1], [1, 1, 62], [31, 2],
          [5, 7, 11], [20, 1, 33], [33, 31], [2, 1, 2])


def child(node, counts, j):
    """The child by the words of the point."""
    low, width, depth = node
    total, ahead = sum(counts), sum(counts[:j])
    start = width * ahead // total
    stop = width * (ahead + counts[j]) // total
    low, width = low + start, stop - start
    while width < 65536:
        low, width, depth = 2 * low, 2 * width, depth + 1
    return (low, width, depth)


def some_nodes(steps):
    """Nodes on some ways from the root."""
    nodes = [ROOT]
    for start in range(len(COUNTS)):
        node = ROOT
        for step in range(steps):
            counts = COUNTS[(start + step * step) % len(COUNTS)]
            node = child(node, counts, (start + 3 * step) // 2 % len(counts))
            nodes.append(node)
    return nodes


def end_by_trying(node):
    """The least n, and the least v for it, by trying all."""
    low, width, depth = node
    for n in range(depth + 1):
        unit = 2 ** (depth - n)
        for v in range(2 ** n):
            if v * unit >= low and (v + 1) * unit <= low + width:
                return [v // 2 ** (n - 1 - k) % 2 for k in range(n)]
    return None


class NextNodeTest(unittest.TestCase):

    def test_root(self):
        self.assertEqual(ROOT, (0, 65536, 16))
        self.assertIsInstance(ROOT, tuple)

    def test_examples(self):
        self.assertEqual(next_node(ROOT, [1, 1, 1], 0), (0, 87380, 18))
        self.assertEqual(next_node((0, 87380, 18), [3, 1, 1], 1), (209712, 69904, 20))
        self.assertEqual(next_node((209712, 69904, 20), [1, 1], 1), (489328, 69904, 21))

    def test_each_border_is_rounded_once(self):
        self.assertEqual(next_node(ROOT, [1, 1, 1], 1), (87380, 87380, 18))
        self.assertEqual(next_node(ROOT, [1, 1, 1], 2), (174760, 87384, 18))

    def test_by_the_words_of_the_point(self):
        for node in some_nodes(20):
            for counts in COUNTS:
                for j in range(len(counts)):
                    self.assertEqual(next_node(node, counts, j), child(node, counts, j))
                    self.assertEqual(next_node(node, tuple(counts), j), child(node, counts, j))

    def test_width_and_doublings(self):
        for node in some_nodes(20):
            for counts in COUNTS:
                for j in range(len(counts)):
                    _, width, depth = next_node(node, counts, j)
                    self.assertTrue(65536 <= width < 131072)
                    self.assertTrue(0 <= depth - node[2] <= 6)

    def test_intervals_follow_one_another_and_fill_the_node(self):
        for node in some_nodes(12):
            low, width, depth = node
            for counts in COUNTS:
                place = low
                for j in range(len(counts)):
                    start, breadth, deep = next_node(node, counts, j)
                    times = 2 ** (deep - depth)
                    self.assertEqual(start, place * times)
                    self.assertEqual(breadth % times, 0)
                    self.assertGreater(breadth, 0)
                    place += breadth // times
                self.assertEqual(place, low + width)

    def test_letters_that_there_are_not(self):
        for counts in ([1, 1], [1, 1, 1], (1, 1), (4, 5, 6)):
            for j in (-1, len(counts), len(counts) + 1, -len(counts), 50):
                with self.assertRaises(Outside):
                    next_node(ROOT, counts, j)

    def test_nothing_handed_in_is_changed(self):
        counts = [5, 3]
        next_node(node=ROOT, counts=counts, j=1)
        self.assertEqual(counts, [5, 3])
        self.assertIsInstance(next_node(ROOT, counts, 1), tuple)


class EndOfTest(unittest.TestCase):

    def test_the_root(self):
        self.assertEqual(end_of(ROOT), [])

    def test_the_example(self):
        self.assertEqual(end_of((489328, 69904, 21)), [0, 0, 1, 1, 1, 1])

    def test_against_trying_all(self):
        tried = 0
        for node in some_nodes(5):
            if node[2] <= 26:
                tried += 1
                self.assertEqual(end_of(node), end_by_trying(node), node)
        self.assertGreater(tried, 40)

    def test_edges_against_trying_all(self):
        for low in (0, 1, 32767, 32768, 32769, 65535, 65536, 65537, 98304, 131071, 131072):
            for width in (65536, 65537, 98303, 98304, 98305, 131071):
                node = (low, width, 18)
                if low + width <= 2 ** 18:
                    self.assertEqual(end_of(node), end_by_trying(node), node)

    def test_lengths(self):
        lengths = {}
        for node in some_nodes(40):
            lengths[node[2] - len(end_of(node))] = True
        self.assertEqual(sorted(lengths), [15, 16])

    def test_deep_nodes(self):
        for node in some_nodes(60):
            low, width, depth = node
            bits = end_of(node)
            v = int("0" + "".join(str(bit) for bit in bits), 2)
            unit = 2 ** (depth - len(bits))
            self.assertTrue(low <= v * unit and (v + 1) * unit <= low + width)
            self.assertLess((v - 1) * unit, low)
            twice = 2 * unit
            self.assertGreater((-(-low // twice) + 1) * twice, low + width)

    def test_new_at_each_call(self):
        node = (489328, 69904, 21)
        end_of(node=node).append(1)
        self.assertEqual(end_of(node), [0, 0, 1, 1, 1, 1])


class RangerTest(unittest.TestCase):

    def test_stands_at_the_root_at_first(self):
        ranger = Ranger()
        self.assertEqual(ranger.doublings, 0)
        self.assertEqual(ranger.end(), [])

    def test_the_example(self):
        ranger = Ranger()
        self.assertIsNone(ranger.take([1, 1, 1], 0))
        self.assertEqual(ranger.doublings, 2)
        ranger.take((3, 1, 1), 1)
        self.assertEqual(ranger.doublings, 4)
        ranger.take(counts=[1, 1], j=1)
        self.assertEqual(ranger.doublings, 5)
        self.assertEqual(ranger.end(), [0, 0, 1, 1, 1, 1])

    def test_goes_as_next_node(self):
        ranger = Ranger()
        node = ROOT
        for step in range(80):
            counts = COUNTS[step * step % len(COUNTS)]
            j = step // 2 % len(counts)
            ranger.take(counts, j)
            node = next_node(node, counts, j)
            self.assertEqual(ranger.doublings, node[2] - 16)
            self.assertEqual(ranger.end(), end_of(node))

    def test_end_changes_nothing(self):
        one, other = Ranger(), Ranger()
        for step in range(30):
            counts = COUNTS[step % len(COUNTS)]
            one.take(counts, 1)
            one.end().append(1)
            one.end()
            other.take(counts, 1)
            self.assertEqual(one.doublings, other.doublings)
        self.assertEqual(one.end(), other.end())

    def test_letters_that_there_are_not_change_nothing(self):
        ranger = Ranger()
        ranger.take([1, 1, 1], 2)
        end, doublings = ranger.end(), ranger.doublings
        for counts, j in (([1, 1], 2), ([1, 1, 1], 3), ((1, 1), -1), ([1, 1, 1], -3)):
            with self.assertRaises(Outside):
                ranger.take(counts, j)
            self.assertEqual((ranger.end(), ranger.doublings), (end, doublings))


if __name__ == "__main__":
    unittest.main()
