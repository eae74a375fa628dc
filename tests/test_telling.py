"""Models, pieces and told letters: point [6]."""

import itertools
import unittest
from fractions import Fraction

from narrowingbits.errors import BadBits
from narrowingbits.ranges import ROOT, Ranger, next_node
from narrowingbits.tables import Table
from narrowingbits.telling import told_letters


class SmallModel:
    """Wants some letters; the table depends on the letter before."""

    def __init__(self, many, sizes=(3, 2, 3)):
        self.many = many
        self.tables = [Table(size) for size in sizes]
        self.taken = []
        self.asked = 0

    def number(self):
        last = self.taken[-1] if self.taken else 0
        return last % len(self.tables)

    def wanted(self):
        self.asked += 1
        if len(self.taken) == self.many:
            return None
        return (self.number(), len(self.tables[self.number()].counts))

    def wanted_counts(self):
        self.asked += 1
        return self.tables[self.number()].counts

    def take(self, letter):
        self.asked += 1
        self.tables[self.number()].learn(letter)
        self.taken.append(letter)


class FixedModel:
    """Wants letters of the same counts for ever, or some of them."""

    def __init__(self, counts, many=None):
        self.counts = counts
        self.many = many
        self.taken = []

    def wanted(self):
        return None if len(self.taken) == self.many else ("letter",)

    def wanted_counts(self):
        return list(self.counts)

    def take(self, letter):
        self.taken.append(letter)


def told_by_fractions(bits, model):
    """Told letters by the words of the point."""
    v = int("0" + "".join(str(bit) for bit in bits), 2)
    low, high = Fraction(v, 2 ** len(bits)), Fraction(v + 1, 2 ** len(bits))
    node = ROOT
    letters = []
    while model.wanted() is not None:
        counts = model.wanted_counts()
        holding = []
        for j in range(len(counts)):
            start, width, depth = next_node(node, counts, j)
            if Fraction(start, 2 ** depth) <= low and high <= Fraction(start + width, 2 ** depth):
                holding.append(j)
        if not holding:
            return letters
        node = next_node(node, counts, holding[0])
        model.take(holding[0])
        letters.append(holding[0])
    return letters


def sequences(many):
    """All whole sequences of the small model."""
    found = [[]]
    for _ in range(many):
        longer = []
        for letters in found:
            model = SmallModel(many)
            for letter in letters:
                model.take(letter)
            longer += [letters + [j] for j in range(model.wanted()[1])]
        found = longer
    return found


def piece_of(letters, model):
    ranger = Ranger()
    for letter in letters:
        ranger.take(model.wanted_counts(), letter)
        model.take(letter)
    return ranger.end()


def long_sequence(many, rule):
    """A long sequence of the small model, by a rule from the step."""
    model = SmallModel(many)
    letters = []
    for step in range(many):
        letters.append(rule(step) % model.wanted()[1])
        model.take(letters[-1])
    return letters


class ToldLettersTest(unittest.TestCase):

    def test_no_bits_tell_nothing(self):
        for many in (0, 1, 5):
            model = SmallModel(many)
            self.assertEqual(told_letters([], model), [])
            self.assertEqual(model.taken, [])

    def test_a_complete_model_is_told_nothing(self):
        self.assertEqual(told_letters([0, 1, 1], SmallModel(0)), [])

    def test_halves(self):
        for bits in itertools.product((0, 1), repeat=6):
            told = told_letters(list(bits), FixedModel([1, 1]))
            self.assertEqual(told, list(bits))

    def test_a_border_may_be_touched(self):
        self.assertEqual(told_letters([0], FixedModel([1, 1], 1)), [0])
        self.assertEqual(told_letters([1], FixedModel([1, 1], 1)), [1])
        self.assertEqual(told_letters([0, 0], FixedModel([1, 3], 1)), [0])
        self.assertEqual(told_letters([0, 1], FixedModel([1, 3], 1)), [1])
        self.assertEqual(told_letters([0, 1], FixedModel([1, 1, 2], 1)), [1])
        self.assertEqual(told_letters([1], FixedModel([3, 1], 1)), [])
        self.assertEqual(told_letters([0], FixedModel([1, 3], 1)), [])

    def test_the_model_takes_the_told_letters(self):
        model = SmallModel(4)
        told = told_letters([0, 0, 1, 1, 1], model)
        self.assertEqual(model.taken, told)
        self.assertTrue(told)

    def test_all_small_lists_of_bits(self):
        for length in range(11):
            for bits in itertools.product((0, 1), repeat=length):
                bits = list(bits)
                for many in (3, 50):
                    told = told_letters(bits, SmallModel(many))
                    self.assertEqual(told, told_by_fractions(bits, SmallModel(many)), bits)

    def test_long_lists_of_bits(self):
        for seed in range(1, 40):
            bits = [(k * k * seed + k // seed) // 3 % 2 for k in range(60)]
            for length in (15, 16, 17, 18, 31, 59, 60):
                told = told_letters(bits[:length], SmallModel(400))
                self.assertEqual(told, told_by_fractions(bits[:length], SmallModel(400)))

    def test_bits_of_one_kind(self):
        for bit in (0, 1):
            for length in (16, 17, 40):
                told = told_letters([bit] * length, SmallModel(300))
                self.assertEqual(told, told_by_fractions([bit] * length, SmallModel(300)))

    def test_the_piece_tells_all_and_no_beginning_does(self):
        for many in range(6):
            for letters in sequences(many):
                piece = piece_of(letters, SmallModel(many))
                self.assertEqual(told_letters(piece, SmallModel(many)), letters)
                for length in range(len(piece)):
                    told = told_letters(piece[:length], SmallModel(many))
                    self.assertLess(len(told), many)
                    self.assertEqual(told, letters[:len(told)])

    def test_long_pieces(self):
        for rule in (lambda step: 0, lambda step: 1, lambda step: step, lambda step: step * step // 7):
            letters = long_sequence(300, rule)
            piece = piece_of(letters, SmallModel(300))
            self.assertEqual(told_letters(piece, SmallModel(300)), letters)
            for length in list(range(len(piece) - 3, len(piece))) + [len(piece) // 2]:
                told = told_letters(piece[:length], SmallModel(300))
                self.assertLess(len(told), 300)
                self.assertEqual(told, letters[:len(told)])

    def test_more_bits_only_add_letters(self):
        for seed in range(1, 30):
            bits = [(k * seed + k * k) // 5 % 2 for k in range(40)]
            before = []
            for length in range(41):
                told = told_letters(bits[:length], SmallModel(60))
                self.assertEqual(told[:len(before)], before)
                before = told

    def test_bits_behind_a_complete_sequence(self):
        piece = piece_of([1, 0], SmallModel(2))
        for behind in ([0], [1], [1, 0, 1], [1] * 3000):
            self.assertEqual(told_letters(piece + behind, SmallModel(2)), [1, 0])

    def test_read_from_where_the_model_stands(self):
        model = SmallModel(5)
        model.take(2)
        model.take(0)
        other = SmallModel(5)
        other.take(2)
        other.take(0)
        bits = [1, 0, 1, 1, 0, 1]
        told = told_letters(bits=bits, model=model)
        self.assertEqual(told, told_by_fractions(bits, other))
        self.assertEqual(model.taken, [2, 0] + told)

    def test_one_call_behind_another_begins_at_the_root(self):
        model = FixedModel([1, 1], 4)
        self.assertEqual(told_letters([1, 0], model), [1, 0])
        self.assertEqual(told_letters([0, 1, 1, 1], model), [0, 1])
        self.assertEqual(told_letters([1], model), [])

    def test_bad_bits_before_the_model_is_asked(self):
        for wrong in (2, -1, 10, None, "1"):
            for bits in ([wrong], [0] * 50 + [wrong], [1, wrong, 0]):
                model = SmallModel(2)
                with self.assertRaises(BadBits):
                    told_letters(bits, model)
                self.assertEqual((model.asked, model.taken), (0, []))

    def test_nothing_handed_in_is_changed_and_what_is_told_is_new(self):
        bits = [1, 0, 1]
        model = FixedModel([1, 1], 2)
        told_letters(bits, model).append(5)
        self.assertEqual(bits, [1, 0, 1])
        self.assertEqual(model.taken, [1, 0])
        self.assertEqual(told_letters(bits, FixedModel([1, 1], 2)), [1, 0])


if __name__ == "__main__":
    unittest.main()
