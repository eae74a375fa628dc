"""Bits with holes: points [13] and [29]."""

import itertools
import random
import unittest

from narrowingbits.boxes import Box
from narrowingbits.cutting import cut
from narrowingbits.errors import BadBits, BadField, Over, TooMany
from narrowingbits.heads import stream_bits
from narrowingbits.holes import read_holes
from narrowingbits.orders import ORDERS
from narrowingbits.pictures import Picture
from narrowingbits.reading import box_of, told_box
from narrowingbits.settings import Setting
from narrowingbits.streams import Stream, code

from head_reference import MARK, head_of, index_of, joined, parts_of, too_many, wrong_beginnings
from picture_reference import box_told, changed, coded_picture, some_settings, spoilt

TWO_CELLS = Setting((0, 2, 0, 1), 0, 1, 0, "X", 3, (9,), "LBTC")
EXAMPLE = code(Picture((0, 2, 0, 1), [[[5, 2]]]), TWO_CELLS)
NO_BITS = (2, -1, "0", 1.5, [None], "")


def front_of(stream):
    return head_of(stream.setting) + index_of([len(piece) for piece in stream])


def box_by_words(stream, bits):
    """The box of the stream whose pieces are cut ahead of their first holes, or where the bits end."""
    place = len(front_of(stream))
    pieces = []
    for piece in stream:
        there = bits[place:place + len(piece)]
        place += len(piece)
        pieces.append(there[:there.index(None)] if None in there else there)
    return box_told(box_of(Stream(stream.setting, pieces)))


def some_streams():
    """Small streams, right and spoilt ones."""
    for number, setting in enumerate(some_settings()[:5]):
        setting = changed(setting, order=ORDERS[number * 5])
        yield code(coded_picture(setting, number), setting)
        yield spoilt(code(coded_picture(setting, number), setting), number)


class HolesTest(unittest.TestCase):

    def test_without_holes(self):
        for stream in some_streams():
            bits = stream_bits(stream)
            before = list(bits)
            box = read_holes(bits=bits)
            self.assertIsInstance(box, Box)
            self.assertEqual(box_told(box), box_told(box_of(stream)))
            self.assertEqual(bits, before)

    def test_cuts_at_each_place(self):
        for stream in some_streams():
            bits = stream_bits(stream)
            for n in range(len(bits) + 1):
                self.assertEqual(box_told(read_holes(bits[:n])), box_told(told_box(bits[:n])))

    def test_a_hole_at_each_place(self):
        for stream in some_streams():
            bits = stream_bits(stream)
            start = len(front_of(stream))
            for at in range(len(bits)):
                holed = bits[:at] + [None] + bits[at + 1:]
                if at < start:
                    self.assertIsNone(read_holes(holed))
                else:
                    self.assertEqual(box_told(read_holes(holed)), box_by_words(stream, holed))
                self.assertEqual(holed.count(None), 1)

    def test_two_holes_and_a_cut(self):
        for stream in itertools.islice(some_streams(), 4):
            bits = stream_bits(stream)
            start = len(front_of(stream))
            for one, other in itertools.combinations(range(start, len(bits)), 2):
                holed = list(bits)
                holed[one] = holed[other] = None
                self.assertEqual(box_told(read_holes(holed)), box_by_words(stream, holed))
                self.assertEqual(box_told(read_holes(holed[:other])), box_by_words(stream, holed[:other]))
                self.assertEqual(box_told(read_holes(holed[:other + 1])), box_by_words(stream, holed[:other + 1]))

    def test_many_holes(self):
        source = random.Random(2)
        for number, setting in enumerate(some_settings()):
            stream = code(coded_picture(setting, number), setting)
            bits = stream_bits(stream)
            start = len(front_of(stream))
            for _ in range(6):
                holed = list(bits)
                for _ in range(source.randint(1, 12)):
                    at = source.randrange(start, len(bits))
                    for place in range(at, min(len(bits), at + source.choice((1, 48)))):
                        holed[place] = None
                holed = holed[:source.randint(start, len(bits))]
                box = read_holes(holed)
                self.assertEqual(box_told(box), box_by_words(stream, holed))
                # The picture stays a member.
                self.assertTrue(box_of(stream).inside(box))

    def test_each_piece_is_cut_for_itself(self):
        bits = stream_bits(EXAMPLE)
        bits[-12] = None
        self.assertEqual(read_holes(bits).stretches(), [[[(-7, 7)]], [[(3, 3)]]])
        bits[-1] = None
        self.assertEqual(read_holes(bits).stretches(), [[[(-7, 7)]], [[(2, 3)]]])
        self.assertEqual(read_holes(bits[:-12]).stretches(), [[[(-7, 7)]], [[(-7, 7)]]])

    def test_nothing_but_holes(self):
        self.assertIsNone(read_holes([]))
        self.assertIsNone(read_holes([None]))
        self.assertIsNone(read_holes([None] * 500))
        self.assertIsNone(read_holes([None] + stream_bits(EXAMPLE)))
        front = front_of(EXAMPLE)
        self.assertEqual(box_told(read_holes(front + [None] * 12)), box_told(box_of(cut(EXAMPLE, 0))))


class ErrorsTest(unittest.TestCase):

    def test_wrong_bits_ahead_of_holes(self):
        for name, bits in wrong_beginnings():
            for more in ([], [None], [None, 0, None], [0, None] * 30):
                with self.assertRaises(BadField, msg=(name, bits)) as caught:
                    read_holes(bits + more)
                self.assertEqual(caught.exception.name, name)
        for more in ([], [None], [0, None]):
            with self.assertRaises(TooMany) as caught:
                read_holes(too_many() + more)
            self.assertEqual(caught.exception.most, 2000)

    def test_holes_ahead_of_wrong_bits(self):
        for _, bits in list(wrong_beginnings()) + [("pieces", too_many())]:
            # A hole in the place of the bit that shows it, or ahead of that.
            for at in (len(bits) - 1, len(bits) - 2, len(bits) // 2, 0):
                self.assertIsNone(read_holes(bits[:at] + [None] + bits[at:]))
                self.assertIsNone(read_holes(bits[:at] + [None] + bits[at + 1:] + [1, 0, None]))
        self.assertIsNone(read_holes(MARK[:7] + [None, 1, 1]))
        self.assertIsNone(read_holes([1, 1, 1, None] + [0] * 99))

    def test_a_bit_or_a_hole_too_many(self):
        for stream in some_streams():
            bits = stream_bits(stream)
            start = len(front_of(stream))
            for more in ([0], [1], [None], [None, 0], [1, None], [None] * 50):
                for at in (None, start, len(bits) - 1, start - 1, 3):
                    holed = list(bits)
                    if at is not None and at < len(bits):
                        holed[at] = None
                    if at is None or at >= start:
                        with self.assertRaises(Over):
                            read_holes(holed + more)
                    else:
                        self.assertIsNone(read_holes(holed + more))

    def test_streams_without_payload(self):
        stream = Stream(TWO_CELLS, [[], []])
        front = front_of(stream)
        self.assertEqual(box_told(read_holes(front)), box_told(box_of(stream)))
        for more in ([None], [0], [None, None]):
            with self.assertRaises(Over):
                read_holes(front + more)
        self.assertIsNone(read_holes(front[:-1] + [None]))
        self.assertIsNone(read_holes(front[:-1] + [None, None, 1]))

    def test_what_is_neither_bit_nor_hole_ahead_of_all_others(self):
        for thing in NO_BITS:
            for bits in ([thing], [None, thing], [0] * 8 + [thing], [0] * 8 + [None, thing], [0] * 60 + [thing],
                         stream_bits(EXAMPLE) + [thing], stream_bits(EXAMPLE) + [None, 0, thing],
                         joined(parts_of()) + [0] * 41 + [thing]):
                with self.assertRaises(BadBits):
                    read_holes(bits)


if __name__ == "__main__":
    unittest.main()
