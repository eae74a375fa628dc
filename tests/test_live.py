"""Reading in any cuts: points [13] and [17.1]."""

import random
import unittest

from narrowingbits.errors import BadBits, BadField, Over, TooMany
from narrowingbits.live import Live
from narrowingbits.models import LineModel
from narrowingbits.orders import lines_of, pieces_of
from narrowingbits.pictures import Picture
from narrowingbits.reading import told_box
from narrowingbits.settings import Setting
from narrowingbits.streams import Stream, code
from narrowingbits.telling import told_letters

from head_reference import bits_of_stream, head_of, index_of, joined, parts_of, too_many, wrong_beginnings
from picture_reference import box_told, coded_picture, piece_table, some_settings, spoilt

TWO_CELLS = Setting((0, 2, 0, 1), 0, 1, 0, "X", 3, (9,), "LBTC")
EXAMPLE = code(Picture((0, 2, 0, 1), [[[5, 2]]]), TWO_CELLS)
EMPTY = Stream(TWO_CELLS, [[], []])


class CountingLayer:
    """The model of one layer of a line."""

    def __init__(self, line, stop):
        self.line = line
        self.stop = stop

    def wanted(self):
        return self.line.wanted() if self.line.pass_number < self.stop else None

    def wanted_counts(self):
        return self.line.wanted_counts()

    def take(self, letter):
        self.line.take(letter)


def letters_told(stream):
    """How many letters the pieces of a stream tell, one after the other."""
    setting = stream.setting
    table = piece_table(stream)
    many = 0
    for c, j, i, b, rect in lines_of(setting):
        line = LineModel(rect, setting.planes)
        for l in range(len(setting.layers)):
            layer = CountingLayer(line, sum(setting.layers[:l + 1]))
            many += len(told_letters(table[c, j, i, b, l], layer))
            if layer.wanted() is not None:
                break
    return many


def cut_stream(stream, many):
    pieces = []
    for piece in stream.pieces:
        pieces.append(piece[:max(0, many)])
        many -= len(piece)
    return Stream(stream.setting, pieces)


def told(live):
    return (live.seen, live.state, box_told(live.box()), live.letters())


def small_streams():
    for number, setting in enumerate(some_settings(planes=2, layers=((6,), (1, 5), (2, 2, 2)))[:7]):
        stream = code(coded_picture(setting, number), setting)
        yield stream
        yield code(coded_picture(setting, number), setting, layers=len(setting.layers) - 1)
        yield spoilt(stream, number)


def expected_at(stream, length):
    """What is to be told behind so many bits."""
    bits = bits_of_stream(stream)
    front = len(head_of(stream.setting) + index_of([len(piece) for piece in stream]))
    box = box_told(told_box(bits[:length]))
    if length < front:
        return (length, "head", None, 0)
    state = "all" if length == len(bits) else "pieces"
    return (length, state, box, letters_told(cut_stream(stream, length - front)))


class LiveTest(unittest.TestCase):

    def test_at_first(self):
        self.assertEqual(told(Live()), (0, "head", None, 0))

    def test_bit_by_bit(self):
        for stream in small_streams():
            live = Live()
            for length, bit in enumerate(bits_of_stream(stream)):
                self.assertEqual(told(live), expected_at(stream, length))
                self.assertIsNone(live.feed([bit]))
            self.assertEqual(told(live), expected_at(stream, length + 1))

    def test_at_once(self):
        for stream in small_streams():
            bits = bits_of_stream(stream)
            live = Live()
            live.feed(bits=bits)
            self.assertEqual(told(live), expected_at(stream, len(bits)))

    def test_in_any_cuts(self):
        source = random.Random(5)
        for stream in small_streams():
            bits = bits_of_stream(stream)
            for most in (2, 7, 30, 90):
                live = Live()
                at = 0
                while at < len(bits):
                    many = source.randint(0, most)
                    live.feed(bits[at:at + many])
                    at = min(at + many, len(bits))
                    self.assertEqual(told(live), expected_at(stream, at))

    def test_asked_seldom_and_twice(self):
        for stream in small_streams():
            bits = bits_of_stream(stream)
            live = Live()
            for at in range(0, len(bits), 50):
                live.feed(bits[at:at + 50])
            self.assertEqual(told(live), expected_at(stream, len(bits)))
            self.assertEqual(told(live), expected_at(stream, len(bits)))

    def test_large_streams(self):
        setting = Setting((-3, 29, 5, 37), 2, 3, 4, "XYXY", 4, (2, 4, 6), "LBTC")
        stream = code(coded_picture(setting, 1), setting)
        bits = bits_of_stream(stream)
        live = Live()
        for bit in bits:
            live.feed([bit])
        self.assertEqual((live.seen, live.state, live.letters()), (len(bits), "all", 3 * 32 * 32 * 4))
        self.assertEqual(live.box().members(), 1)

    def test_without_a_payload(self):
        live = Live()
        bits = bits_of_stream(EMPTY)
        live.feed(bits[:-1])
        self.assertEqual(live.state, "head")
        live.feed(bits[-1:])
        self.assertEqual(told(live), (len(bits), "all", (box_told(told_box(bits))), 0))
        live.feed([])
        self.assertEqual((live.seen, live.state), (len(bits), "all"))
        with self.assertRaises(Over):
            live.feed([0])
        self.assertEqual((live.seen, live.state), (len(bits), "all"))

    def test_no_bits_change_nothing(self):
        live = Live()
        for bit in bits_of_stream(EXAMPLE):
            before = told(live)
            self.assertIsNone(live.feed([]))
            self.assertEqual(told(live), before)
            live.feed([bit])

    def test_what_is_handed_in_or_out_may_be_changed(self):
        live = Live()
        bits = bits_of_stream(EXAMPLE)
        front = bits[:57]
        live.feed(front)
        self.assertEqual(front, bits[:57])
        front.clear()
        live.box().stretches().clear()
        self.assertEqual(live.box().stretches(), [[[(3, 3)]], [[(-7, 7)]]])
        box = live.box()
        live.feed(bits[57:])
        self.assertEqual(box.stretches(), [[[(3, 3)]], [[(-7, 7)]]])
        self.assertEqual(live.box().stretches(), [[[(3, 3)]], [[(3, 3)]]])


class RefusedTest(unittest.TestCase):

    def assert_refused(self, live, bits, error, name=None):
        before = told(live)
        with self.assertRaises(error, msg=bits) as caught:
            live.feed(bits)
        if name is not None:
            self.assertEqual(caught.exception.name, name)
        self.assertEqual(told(live), before)

    def test_wrong_things_at_their_last_bit_and_not_before(self):
        for name, bits in wrong_beginnings():
            live = Live()
            self.assert_refused(live, bits, BadField, name)
            live.feed(bits[:-1])
            self.assertEqual(told(live), (len(bits) - 1, "head", None, 0))
            self.assert_refused(live, bits[-1:], BadField, name)
            self.assert_refused(live, bits[-1:] + [0, 1], BadField, name)

    def test_too_many(self):
        bits = too_many()
        live = Live()
        self.assert_refused(live, bits, TooMany)
        for bit in bits[:-1]:
            live.feed([bit])
        self.assert_refused(live, bits[-1:], TooMany)

    def test_reading_goes_on(self):
        for stream in (EXAMPLE, *list(small_streams())[:9]):
            bits = bits_of_stream(stream)
            source = random.Random(len(bits))
            live = Live()
            at = 0
            while at < len(bits):
                many = source.randint(1, 9)
                self.assert_refused(live, bits[at:] + [0], Over)
                self.assert_refused(live, bits[at:] + [1] * 99, Over)
                self.assert_refused(live, bits[at:at + many] + [2], BadBits)
                if at < 8:
                    self.assert_refused(live, [1 - bit for bit in bits[at:8]] + bits, BadField, "mark")
                live.feed(bits[at:at + many])
                at = min(at + many, len(bits))
                self.assertEqual(told(live), expected_at(stream, at))
            self.assert_refused(live, [0], Over)
            self.assert_refused(live, [1, 1, 1], Over)

    def test_a_wrong_thing_behind_right_ones(self):
        bits = bits_of_stream(EXAMPLE)
        head = joined(parts_of())
        for at in range(len(head)):
            live = Live()
            live.feed(bits[:at])
            self.assert_refused(live, head[at:] + [0] * 41, BadField, "length")
            self.assert_refused(live, head[at:] + index_of([6, 2 ** 20 + 1]), BadField, "length")
            live.feed(bits[at:])
            self.assertEqual(told(live), expected_at(EXAMPLE, len(bits)))

    def test_things_that_are_no_bits_are_ahead_of_all_others(self):
        bits = bits_of_stream(EXAMPLE)
        for at in (0, 5, 40, 51, 60, 63):
            live = Live()
            live.feed(bits[:at])
            for thing in (2, -1, "0", None):
                for wrong in ([thing], [0] * 90 + [thing], bits[at:] + [1, thing], bits[at:] + [thing], [thing, 1, 1]):
                    self.assert_refused(live, wrong, BadBits)
            live.feed(bits[at:])
            self.assertEqual(told(live), expected_at(EXAMPLE, 63))

    def test_many_pieces_bit_by_bit(self):
        setting = Setting((0, 20, 0, 20), 0, 0, 0, "", 4, (4, 3, 2, 2, 1), "TCBL")
        stream = Stream(setting, [[1] * (number % 3) for number in range(len(pieces_of(setting)))])
        live = Live()
        for bit in bits_of_stream(stream):
            live.feed([bit])
        self.assertEqual(live.state, "all")
        self.assertEqual(box_told(live.box()), box_told(told_box(bits_of_stream(stream))))


if __name__ == "__main__":
    unittest.main()
