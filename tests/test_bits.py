"""Counts as bits: point [2]."""

import unittest

from narrowingbits.bits import count_bits, fixed, read_count, read_signed, signed_bits
from narrowingbits.errors import BadBits, Great, Outside

GREATEST = 2 ** 41 - 2
NO_BITS = (2, -1, 10, "1", None)


def digits(text):
    return [int(sign) for sign in text]


def near_powers(most):
    found = [0]
    for power in range(most):
        found += [2 ** power - 1, 2 ** power, 2 ** power + 1]
    return found


class FixedTest(unittest.TestCase):

    def test_digits_highest_first(self):
        self.assertEqual(fixed(3, 4), digits("0011"))
        self.assertEqual(fixed(8, 4), digits("1000"))
        self.assertEqual(fixed(1, 1), [1])
        self.assertEqual(fixed(0, 3), [0, 0, 0])
        self.assertEqual(fixed(n=6, w=3), digits("110"))

    def test_no_digits(self):
        self.assertEqual(fixed(0, 0), [])

    def test_all_small_ones(self):
        for w in range(8):
            for n in range(2 ** w):
                expected = [n // 2 ** (w - 1 - k) % 2 for k in range(w)]
                self.assertEqual(fixed(n, w), expected)

    def test_great_ones(self):
        self.assertEqual(fixed(2 ** 100 - 1, 100), [1] * 100)
        self.assertEqual(fixed(2 ** 100, 101), [1] + [0] * 100)
        self.assertEqual(fixed(1, 20000), [0] * 19999 + [1])

    def test_outside(self):
        for n, w in ((-1, 4), (-1, 0), (0, -1), (1, -1), (1, 0), (16, 4), (17, 4), (2 ** 100, 100)):
            with self.assertRaises(Outside):
                fixed(n, w)

    def test_new_at_each_call(self):
        fixed(5, 3).append(7)
        self.assertEqual(fixed(5, 3), [1, 0, 1])


class CountBitsTest(unittest.TestCase):

    def test_codes_that_are_named(self):
        codes = ("1", "010", "011", "00100", "00101")
        for n, code in enumerate(codes):
            self.assertEqual(count_bits(n), digits(code))

    def test_zeros_and_then_the_digits_of_the_next_number(self):
        for n in near_powers(41)[:-1]:
            m = format(n + 1, "b")
            self.assertEqual(count_bits(n), digits("0" * (len(m) - 1) + m), n)

    def test_the_greatest(self):
        self.assertEqual(count_bits(GREATEST), [0] * 40 + [1] * 41)
        for n in (GREATEST + 1, GREATEST + 2, 2 ** 60, -1, -2 ** 50):
            with self.assertRaises(Great):
                count_bits(n)

    def test_no_code_begins_another_one(self):
        codes = ["".join(str(bit) for bit in count_bits(n)) for n in range(300)]
        for one in codes:
            self.assertEqual([other for other in codes if other.startswith(one)], [one])

    def test_new_at_each_call(self):
        count_bits(1).append(1)
        self.assertEqual(count_bits(1), [0, 1, 0])


class SignedBitsTest(unittest.TestCase):

    def test_codes_that_are_named(self):
        for n, code in ((0, "1"), (-1, "010"), (1, "011"), (-2, "00100")):
            self.assertEqual(signed_bits(n), digits(code))

    def test_codes_of_counts(self):
        for n in near_powers(39):
            self.assertEqual(signed_bits(n), count_bits(2 * n))
            if n > 0:
                self.assertEqual(signed_bits(-n), count_bits(2 * n - 1))

    def test_the_greatest(self):
        self.assertEqual(signed_bits(2 ** 40 - 1), count_bits(GREATEST))
        self.assertEqual(signed_bits(-(2 ** 40 - 1)), count_bits(GREATEST - 1))
        for n in (2 ** 40, -2 ** 40, 2 ** 50, -2 ** 50):
            with self.assertRaises(Great):
                signed_bits(n)


class ReadingTest(unittest.TestCase):
    """What reading a count and reading a signed number have in common."""

    def both(self, bits, at, told):
        self.assertEqual(read_count(bits, at), told)
        self.assertEqual(read_signed(bits, at), told)

    def test_each_proper_beginning_is_short(self):
        for n in (0, 1, 2, 3, 4, 5, 100, 2 ** 40, GREATEST - 1, GREATEST):
            code = count_bits(n)
            for length in range(len(code)):
                self.both(code[:length], 0, ("short",))
                self.both([1, 0] + code[:length], 2, ("short",))

    def test_long_by_the_41st_zero(self):
        self.both([0] * 40, 0, ("short",))
        self.both([0] * 41, 0, ("long",))
        for behind in ([0], [1], [1] * 41, [1] * 42, [0] * 50, [1] + [0] * 60):
            self.both([0] * 41 + behind, 0, ("long",))
        self.both([1, 1] + [0] * 41 + [1], 2, ("long",))

    def test_zeros_ahead_of_the_place_do_not_count(self):
        code = [0] * 40 + [1] + [0] * 40
        self.assertEqual(read_count([0] * 9 + code, 9), ("read", 2 ** 40 - 1, 90))
        self.assertEqual(read_count([0] * 8 + code, 8), ("read", 2 ** 40 - 1, 89))
        self.assertEqual(read_count([0] + code, 0), ("long",))

    def test_forty_zeros_are_not_long(self):
        self.both([0] * 40 + [1], 0, ("short",))
        self.both([0] * 40 + [1] * 40, 0, ("short",))
        self.assertEqual(read_count([0] * 40 + [1] * 41, 0), ("read", GREATEST, 81))

    def test_at_the_end(self):
        self.both([], 0, ("short",))
        self.both([1, 1, 1], 3, ("short",))

    def test_places_outside(self):
        for reader in (read_count, read_signed):
            for bits, at in (([], 1), ([], -1), ([1], 2), ([1], -1), ([1, 0], 3)):
                with self.assertRaises(Outside):
                    reader(bits, at)

    def test_bad_bits_anywhere(self):
        for reader in (read_count, read_signed):
            for wrong in NO_BITS:
                for bits, at in (([wrong, 1], 1), ([1, wrong], 0), ([1, 1, wrong], 0), ([wrong], 0)):
                    with self.assertRaises(BadBits):
                        reader(bits, at)

    def test_bad_bits_ahead_of_the_place(self):
        for reader in (read_count, read_signed):
            for at in (-1, 9):
                with self.assertRaises(BadBits):
                    reader([1, 2], at)

    def test_bad_bits_ahead_of_long(self):
        for reader in (read_count, read_signed):
            with self.assertRaises(BadBits):
                reader([0] * 41 + [2], 0)

    def test_no_argument_is_changed(self):
        bits = [1, 0, 1, 0, 1]
        read_count(bits, at=1)
        read_signed(bits=bits, at=1)
        self.assertEqual(bits, [1, 0, 1, 0, 1])


class ReadCountTest(unittest.TestCase):

    def test_what_is_written_is_read(self):
        for n in near_powers(41)[:-2] + [GREATEST, GREATEST - 1]:
            code = count_bits(n)
            for ahead in ([], [0], [1], [0, 0, 1, 0]):
                for behind in ([], [0], [1], [0, 1, 1], [1] * 50):
                    told = read_count(ahead + code + behind, len(ahead))
                    self.assertEqual(told, ("read", n, len(ahead) + len(code)))

    def test_one_behind_the_other(self):
        bits = []
        for n in range(50):
            bits += count_bits(n)
        at = 0
        for n in range(50):
            word, read, at = read_count(bits, at)
            self.assertEqual((word, read), ("read", n))
        self.assertEqual(at, len(bits))


class ReadSignedTest(unittest.TestCase):

    def test_what_is_written_is_read(self):
        for n in near_powers(40)[:-1] + [2 ** 40 - 1]:
            for number in (n, -n):
                code = signed_bits(number)
                for ahead in ([], [0], [0, 1, 1]):
                    for behind in ([], [0], [1, 0]):
                        told = read_signed(ahead + code + behind, len(ahead))
                        self.assertEqual(told, ("read", number, len(ahead) + len(code)))

    def test_small_codes(self):
        told = [read_signed(count_bits(c), 0)[1] for c in range(7)]
        self.assertEqual(told, [0, -1, 1, -2, 2, -3, 3])


if __name__ == "__main__":
    unittest.main()
