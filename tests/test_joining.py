"""Joining: points [18] and [21]."""

import unittest

from narrowingbits.colours import coloured
from narrowingbits.cutting import cut
from narrowingbits.errors import BadField, Outside, TooMany, Unlike
from narrowingbits.joining import bundle, channel, join_streams
from narrowingbits.moving import take
from narrowingbits.orders import ORDERS, lines_of, pieces_of, tiles_of
from narrowingbits.pictures import Picture
from narrowingbits.reading import box_of
from narrowingbits.settings import Setting
from narrowingbits.streams import Stream, code

from picture_reference import (changed, coded_picture, fields_of, members_of, piece_table, some_settings, spoilt,
                               stream_told, told)

FAR = 2 ** 30
LEFT = Setting((-1, 2, 0, 3), 0, 1, 1, "XY", 3, (4, 5), "LBTC")


def settings_in_many_orders():
    for number, setting in enumerate(some_settings()):
        for order in ORDERS[number % 6::8]:
            yield changed(setting, order=order)


def empty(setting):
    return Stream(setting, [[]] * len(pieces_of(setting)))


def broken_streams(setting, number):
    stream = code(coded_picture(setting, number), setting)
    many = sum(len(piece) for piece in stream)
    return [cut(stream, many // 2), spoilt(stream, number), spoilt(stream, number + 5)]


def rows_by_line(stream):
    return {line[:4]: rows for line, rows in zip(lines_of(stream.setting), box_of(stream).stretches())}


def cut_in_two(stream, axis):
    """Pairs of parts of a stream, cut between tiles."""
    tiles = tiles_of(stream.setting)
    (j, i), (last_j, last_i) = tiles[0], tiles[-1]
    if axis == "X":
        return [(take(stream, j, last_j + 1, i, at), take(stream, j, last_j + 1, at, last_i + 1))
                for at in range(i + 1, last_i + 1)]
    return [(take(stream, j, at, i, last_i + 1), take(stream, at, last_j + 1, i, last_i + 1))
            for at in range(j + 1, last_j + 1)]


class JoinStreamsTest(unittest.TestCase):

    def test_parts_that_were_taken(self):
        found = {"X": 0, "Y": 0}
        for number, setting in enumerate(settings_in_many_orders()):
            whole = code(coded_picture(setting, number), setting)
            for stream in [whole] + broken_streams(setting, number):
                for axis in ("X", "Y"):
                    for one, other in cut_in_two(stream, axis):
                        self.assertEqual(stream_told(join_streams(one, other, axis)), stream_told(stream))
                        found[axis] += 1
        self.assertTrue(min(found.values()) > 20)

    def test_what_code_writes(self):
        for mode in (0, 1, 2):
            for order in ORDERS[::5]:
                one = Setting((-3, 4, 1, 4), mode, 2, 1, "XY", 3, (2, 7), order)
                pictures = {axis: coded_picture(changed(one, rect=rect), 3) for axis, rect in
                            (("", one.rect), ("X", (4, 9, 1, 4)), ("Y", (-3, 4, 4, 5)))}
                streams = {axis: code(picture, changed(one, rect=picture.rect)) for axis, picture in pictures.items()}
                channels = list(zip(pictures[""].channels, pictures["X"].channels))
                beside = Picture((-3, 9, 1, 4), [[a + b for a, b in zip(*pair)] for pair in channels])
                below = Picture((-3, 4, 1, 5), [a + b for a, b in zip(pictures[""].channels, pictures["Y"].channels)])
                for axis, picture in (("X", beside), ("Y", below)):
                    result = join_streams(streams[""], streams[axis], axis)
                    self.assertIsInstance(result, Stream)
                    expected = code(picture, changed(one, rect=picture.rect))
                    self.assertEqual(stream_told(result), stream_told(expected))

    def test_boxes_of_cut_and_spoilt_streams(self):
        other_setting = changed(LEFT, rect=(2, 5, 0, 3))
        for one in broken_streams(LEFT, 1):
            for other in broken_streams(other_setting, 2):
                rows = {**rows_by_line(one), **rows_by_line(other)}
                self.assertEqual(rows_by_line(join_streams(axis="X", other=other, one=one)), rows)

    def test_no_axes(self):
        for axis in ("x", "", "XY", "Z", None, 0):
            for other in (empty(LEFT), empty(changed(LEFT, rect=(2, 5, 0, 3)))):
                with self.assertRaises(BadField) as caught:
                    join_streams(empty(LEFT), other, axis)
                self.assertEqual(caught.exception.name, "axis")

    def test_unlike(self):
        # Rects for the axis X that do not stand side by side, then the same for Y.
        for rect in ((3, 5, 0, 3), (1, 3, 0, 3), (2, 5, 1, 3), (2, 5, 0, 2), (2, 5, -1, 3), (2, 5, 0, 4), (2, 5, 1, 4),
                     (-1, 2, 0, 3), (-4, -1, 0, 3)):
            for axis, one, other in (("X", LEFT.rect, rect), ("Y", self.turned(LEFT.rect), self.turned(rect))):
                with self.assertRaises(Unlike, msg=(axis, other)):
                    join_streams(empty(changed(LEFT, rect=one)), empty(changed(LEFT, rect=other)), axis)
        good = (2, 5, 0, 3)
        self.assertIsInstance(join_streams(empty(LEFT), empty(changed(LEFT, rect=good)), "X"), Stream)
        for fields in ({"mode": 1}, {"mode": 2}, {"tx": 2}, {"ty": 2}, {"word": "YX"}, {"word": "X"},
                       {"planes": 4, "layers": (4, 8)}, {"layers": (5, 4)}, {"layers": (9,)}, {"order": "BCLT"}):
            for axis, one, rect in (("X", LEFT, good), ("Y", changed(LEFT, rect=self.turned(LEFT.rect)),
                                                        self.turned(good))):
                other = changed(LEFT, rect=rect, **fields)
                with self.assertRaises(Unlike, msg=fields):
                    join_streams(empty(one), empty(other), axis)

    def turned(self, rect):
        return rect[2:] + rect[:2]

    def test_within_a_tile(self):
        for x1, good in ((1, False), (2, False), (4, True), (3, False), (8, True)):
            one = Setting((-3, x1, -3, x1), 0, 2, 2, "", 3, (9,), "LBTC")
            for axis, rect in (("X", (x1, x1 + 2, -3, x1)), ("Y", (-3, x1, x1, x1 + 2))):
                streams = (empty(one), empty(changed(one, rect=rect)))
                if good:
                    self.assertIsInstance(join_streams(*streams, axis), Stream)
                else:
                    with self.assertRaises(Unlike):
                        join_streams(*streams, axis)

    def test_long_sides(self):
        one = Setting((0, 16, 0, 16), 0, 4, 4, "", 3, (9,), "LBTC")
        for size, name_x, name_y in ((16, None, None), (17, "width", "height"), (32, "width", "height")):
            for axis, name, rect in (("X", name_x, (16, 16 + size, 0, 16)), ("Y", name_y, (0, 16, 16, 16 + size))):
                streams = (empty(one), empty(changed(one, rect=rect)))
                if name is None:
                    self.assertEqual(join_streams(*streams, axis).setting.rect[1::2].count(32), 1)
                else:
                    with self.assertRaises(BadField) as caught:
                        join_streams(*streams, axis)
                    self.assertEqual(caught.exception.name, name)
        self.assertEqual(join_streams(empty(changed(one, rect=(FAR - 32, FAR - 16, 0, 16))),
                                      empty(changed(one, rect=(FAR - 16, FAR, 0, 16))), "X").setting.rect[1], FAR)

    def test_too_many_last(self):
        one = Setting((0, 16, 0, 32), 0, 0, 0, "", 3, (3, 6), "LBTC")
        for width, error in ((15, None), (16, TooMany), (17, BadField)):
            other = empty(changed(one, rect=(16, 16 + width, 0, 31 if width == 15 else 32)))
            first = empty(changed(one, rect=(0, 16, 0, 31 if width == 15 else 32)))
            if error is None:
                self.assertEqual(len(join_streams(first, other, "X").pieces), 31 * 31 * 2)
            else:
                with self.assertRaises(error) as caught:
                    join_streams(first, other, "X")
                if error is TooMany:
                    self.assertEqual(caught.exception.most, 2000)
        with self.assertRaises(Unlike):
            join_streams(empty(one), empty(changed(one, rect=(16, 32, 0, 32), layers=(2, 7))), "X")
        with self.assertRaises(BadField):
            join_streams(empty(one), empty(changed(one, rect=(16, 32, 0, 32))), "Z")


class ChannelTest(unittest.TestCase):

    def test_what_code_writes(self):
        for number, setting in enumerate(settings_in_many_orders()):
            picture = coded_picture(setting, number)
            stream = code(picture, setting)
            channels = coloured(picture.channels) if setting.mode == 2 else picture.channels
            for c, rows in enumerate(channels):
                result = channel(stream, c)
                self.assertIsInstance(result, Stream)
                expected = code(Picture(setting.rect, [rows]), changed(setting, mode=0))
                self.assertEqual(stream_told(result), stream_told(expected))

    def test_of_cut_and_spoilt_streams(self):
        for number, setting in enumerate(some_settings()):
            for stream in broken_streams(setting, number):
                for c in range(1 if setting.mode == 0 else 3):
                    result = channel(c=c, stream=stream)
                    rows = {(0,) + line[1:]: found for line, found in rows_by_line(stream).items() if line[0] == c}
                    self.assertEqual(rows_by_line(result), rows)
                    pieces = {(0,) + key[1:]: piece for key, piece in piece_table(stream).items() if key[0] == c}
                    self.assertEqual(piece_table(result), pieces)

    def test_outside(self):
        for setting in some_settings():
            for c in (-1, 1 if setting.mode == 0 else 3, 99):
                with self.assertRaises(Outside):
                    channel(empty(setting), c)


class BundleTest(unittest.TestCase):

    def plain_streams(self, setting, number):
        plain = changed(setting, mode=0)
        return [code(coded_picture(plain, number + c), plain) for c in range(3)]

    def test_what_code_writes(self):
        for number, setting in enumerate(settings_in_many_orders()):
            picture = coded_picture(setting, number)
            stream = code(picture, setting)
            if setting.mode > 0:
                streams = [channel(stream, c) for c in range(3)]
                for form in (streams, tuple(streams)):
                    result = bundle(form, setting.mode)
                    self.assertIsInstance(result, Stream)
                    self.assertEqual(stream_told(result), stream_told(stream))

    def test_both_modes(self):
        for number, setting in enumerate(some_settings()):
            streams = self.plain_streams(setting, number)
            rows = [box_of(stream).nearest().channels[0] for stream in streams]
            one = box_of(bundle(streams, 1)).nearest()
            self.assertEqual(told(one), (setting.rect, rows))
            other = box_of(bundle(mode=2, streams=streams)).nearest()
            self.assertEqual(coloured(other.channels), rows)

    def test_of_cut_and_spoilt_streams(self):
        for number, setting in enumerate(some_settings()):
            plain = changed(setting, mode=0)
            streams = broken_streams(plain, number)
            for mode in (1, 2):
                result = bundle(streams, mode)
                self.assertEqual(fields_of(result.setting), {**fields_of(plain), "mode": mode})
                for c, stream in enumerate(streams):
                    self.assertEqual(stream_told(channel(result, c)), stream_told(stream))
                rows = {(c,) + line[1:]: found for c, stream in enumerate(streams)
                        for line, found in rows_by_line(stream).items()}
                self.assertEqual(rows_by_line(result), rows)

    def test_the_members_of_small_boxes(self):
        setting = Setting((0, 2, 0, 1), 0, 1, 0, "X", 1, (3,), "LBTC")
        streams = [Stream(setting, pieces) for pieces in ([[], []], [[0, 0], []], [[0, 0], [0, 1]])]
        members = [members_of(box_of(stream)) for stream in streams]
        found = {str([one.channels[0], two.channels[0], three.channels[0]])
                 for one in members[0] for two in members[1] for three in members[2]}
        self.assertEqual({str(member.channels) for member in members_of(box_of(bundle(streams, 1)))}, found)
        coloured_members = members_of(box_of(bundle(streams, 2)))
        self.assertEqual({str(coloured(member.channels)) for member in coloured_members}, found)

    def test_other_numbers_of_streams(self):
        stream, other = empty(LEFT), empty(changed(LEFT, mode=1))
        for streams in ([], [stream], [stream] * 2, [stream] * 4, (), (stream,), [other], [other] * 4):
            for mode in (0, 1, 2, 3):
                with self.assertRaises(Outside):
                    bundle(streams, mode)

    def test_other_modes(self):
        for mode in (0, 3, -1, 99):
            for streams in ([empty(LEFT)] * 3, [empty(changed(LEFT, mode=1))] * 3):
                with self.assertRaises(BadField) as caught:
                    bundle(streams, mode)
                self.assertEqual(caught.exception.name, "mode")

    def test_unlike(self):
        good = empty(LEFT)
        for fields in ({"mode": 1}, {"mode": 2}, {"rect": (0, 2, 0, 3)}, {"tx": 2}, {"ty": 2}, {"word": "YX"},
                       {"planes": 4, "layers": (4, 8)}, {"layers": (5, 4)}, {"order": "BCLT"}):
            other = empty(changed(LEFT, **fields))
            for streams in ([other, good, good], [good, other, good], [good, good, other], [other, other, good]):
                for mode in (1, 2):
                    with self.assertRaises(Unlike, msg=fields):
                        bundle(streams, mode)
        for mode in (1, 2):
            for given in (1, 2):
                with self.assertRaises(Unlike):
                    bundle([empty(changed(LEFT, mode=given))] * 3, mode)

    def test_too_many_last(self):
        setting = Setting((0, 29, 0, 23), 0, 0, 0, "", 3, (9,), "LBTC")
        with self.assertRaises(TooMany) as caught:
            bundle([empty(setting)] * 3, 1)
        self.assertEqual(caught.exception.most, 2000)
        with self.assertRaises(Unlike):
            bundle([empty(setting), empty(setting), empty(changed(setting, layers=(1, 8)))], 1)
        self.assertEqual(len(bundle([empty(changed(setting, rect=(0, 29, 0, 22)))] * 3, 2).pieces), 29 * 22 * 3)


class NothingChangedTest(unittest.TestCase):

    def test_streams_that_are_handed_in(self):
        stream = code(coded_picture(LEFT, 1), LEFT)
        other = code(coded_picture(changed(LEFT, rect=(2, 4, 0, 3)), 2), changed(LEFT, rect=(2, 4, 0, 3)))
        streams = [stream] * 3
        before = (stream_told(stream), stream_told(other))
        for result in (join_streams(stream, other, "X"), channel(stream, 0), bundle(streams, 1)):
            result.pieces[0].append(1)
            self.assertEqual((stream_told(stream), stream_told(other)), before)
            self.assertEqual(streams, [stream] * 3)


if __name__ == "__main__":
    unittest.main()
