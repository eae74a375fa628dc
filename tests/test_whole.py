"""What holds over the whole program: points [0.1], [0.2] and [0.3], along whole ways of pictures."""

import itertools
import random
import unittest

from narrowingbits import errors
from narrowingbits.bounds import samples
from narrowingbits.boxes import Box
from narrowingbits.cells import good, open_cells, protect
from narrowingbits.coefs import coefs_of, picture_of
from narrowingbits.cutting import cut, keep_layers
from narrowingbits.filmbits import film_bits, read_film, told_film
from narrowingbits.filmboxes import frame_box
from narrowingbits.filmmoves import film_turned
from narrowingbits.films import film
from narrowingbits.guesses import guess, off
from narrowingbits.heads import read_stream, stream_bits
from narrowingbits.holes import read_holes
from narrowingbits.judges import judge
from narrowingbits.live import Live
from narrowingbits.making import patch, relayer, retile
from narrowingbits.models import LineModel
from narrowingbits.moved import mirrored, shrunk, swapped, taken
from narrowingbits.moving import reorder, shift, shrink, take
from narrowingbits.orders import ORDERS, tile_rect, tiles_of
from narrowingbits.papers import make
from narrowingbits.pictures import Picture
from narrowingbits.reading import box_of, told_box
from narrowingbits.settings import Setting
from narrowingbits.streams import code, is_right, is_whole
from narrowingbits.streamtexts import stream_of, text_of_stream
from narrowingbits.studio import Studio
from narrowingbits.telling import told_letters
from narrowingbits.texts import picture_read, setting_of, text_of_picture, text_of_setting
from narrowingbits.turning import lighten, mirror, swap, turned

from cell_reference import CELL, data_numbers, flipped
from deed_reference import lighter, part_of
from film_reference import film_told, some_pictures
from paper_reference import small_boxes, spans_of
from picture_reference import (box_told, changed, channel_count, coded_picture, fields_of, members_of, some_settings,
                               stream_told, told)


def all_ways():
    """Settings of all modes in all orders, each with a picture."""
    settings = some_settings()
    for number, order in enumerate(ORDERS * 2):
        setting = changed(settings[number % len(settings)], order=order, mode=number % 3)
        yield number, setting, coded_picture(setting, number)


def in_cuts(bits, seed):
    """The bits in some cuts, some of them empty."""
    source = random.Random(seed)
    left = list(bits)
    while left:
        many = source.choice((0, 1, 1, 2, 5, 40))
        yield left[:many]
        left = left[many:]


class ReadBackTest(unittest.TestCase):
    """(a) What is written is read back, bit for bit, in any cuts of the bits."""

    def test_streams(self):
        for number, setting, picture in all_ways():
            stream = code(picture, setting)
            bits = stream_bits(stream)
            self.assertEqual(stream_told(read_stream(bits)), stream_told(stream))
            live = Live()
            for part in in_cuts(bits, number):
                live.feed(part)
            self.assertEqual((live.seen, live.state), (len(bits), "all"))
            self.assertEqual(told(live.box().nearest()), told(picture))
            self.assertEqual(told(box_of(read_stream(bits)).nearest()), told(picture))

    def test_films(self):
        for number, setting, _ in itertools.islice(all_ways(), 0, None, 4):
            leans = (None, 0, 1, None, 0)
            pictures = some_pictures(setting, leans, number)
            made = film(pictures, setting, leans)
            again = read_film(film_bits(made))
            self.assertEqual(film_told(again), film_told(made))
            for n, picture in enumerate(pictures):
                self.assertEqual(told(frame_box(again, n).nearest()), told(picture))
                self.assertEqual(told(told_film(film_bits(made))[n].nearest()), told(picture))

    def test_texts(self):
        for _, setting, picture in all_ways():
            stream = code(picture, setting)
            self.assertEqual(stream_told(stream_of(text_of_stream(stream))), stream_told(stream))
            self.assertEqual(fields_of(setting_of(text_of_setting(setting))), fields_of(setting))
            self.assertEqual(told(picture_read(text_of_picture(picture))), told(picture))


class PrefixTest(unittest.TestCase):
    """(b) The box of a prefix never widens; it is one picture at the last bit and not before."""

    def test_along_the_bits(self):
        for number, setting, picture in itertools.islice(all_ways(), 0, None, 3):
            bits = stream_bits(code(picture, setting))
            before = None
            step = 1 + len(bits) // 150
            for n in list(range(0, len(bits) - 1, step)) + [len(bits) - 1, len(bits)]:
                box = told_box(bits[:n])
                if box is not None:
                    self.assertTrue(picture in box)
                    self.assertTrue(before is None or box.inside(before))
                    self.assertEqual(box.members() == 1, n == len(bits))
                    before = box

    def test_just_the_pictures_with_these_letters(self):
        setting = Setting((0, 2, 0, 1), 0, 1, 0, "X", 2, (6,), "BCLT")

        def letters(stream):
            """The letters that are told of the two lines, each of one cell."""
            return [told_letters(piece, LineModel((0, 1, 0, 1), 2)) for piece in stream.pieces]

        pictures = [picture_of([[[one]], [[other]]], setting) for one, other in itertools.product(range(-3, 4), repeat=2)]
        wholes = [letters(code(picture, setting)) for picture in pictures]
        for picture in pictures:
            stream = code(picture, setting)
            for n in range(sum(len(piece) for piece in stream) + 1):
                box = box_of(cut(stream, n))
                told_ones = letters(cut(stream, n))
                for other, whole in zip(pictures, wholes):
                    begins = all(line[:len(ones)] == ones for line, ones in zip(whole, told_ones))
                    self.assertEqual(other in box, begins)


class QuestionsTest(unittest.TestCase):
    """(c) The told ends are exact; no picture of numbers is a better guess."""

    def test_small_boxes(self):
        for stream, n, members in small_boxes():
            box = box_of(cut(stream, n))
            spans = spans_of(members)
            x0, _, y0, _ = stream.setting.rect
            for (c, (x, y)), span in spans.items():
                self.assertEqual(samples(box)[c][y - y0][x - x0], span)
            worst = max(abs(guess(box).channels[c][y - y0][x - x0] - number)
                        for (c, (x, y)), span in spans.items() for number in span)
            self.assertEqual(off(box), worst)
            # In the cell with the farthest ends any number is as far off from one of them.
            low, high = max(spans.values(), key=lambda span: span[1] - span[0])
            self.assertEqual(worst, min(max(abs(low - number), abs(high - number)) for number in range(low, high + 1)))


class DeedsTest(unittest.TestCase):
    """(d) Each deed returns the bits that `code` writes of the changed picture."""

    def assert_same(self, stream, picture, setting):
        self.assertEqual(stream_told(stream), stream_told(code(picture, setting)))

    def test_one_behind_the_other(self):
        for number, setting, _ in all_ways():
            setting = changed(setting, planes=9, layers=(6, 21))
            picture = coded_picture(changed(setting, planes=5, layers=(15,)), number)
            source = random.Random(number)
            stream = code(picture, setting)
            for _ in range(5):
                stream, picture, setting = self.moved_on(source, stream, picture, setting)
                self.assertTrue(is_whole(stream))
                self.assertEqual(told(box_of(stream).nearest()), told(picture))
                self.assert_same(stream, picture, setting)
                self.assertEqual(stream_told(read_stream(stream_bits(stream))), stream_told(stream))

    def moved_on(self, source, stream, picture, setting):
        way = source.randrange(9)
        x0, x1, y0, y1 = setting.rect
        tiles = tiles_of(setting)
        j, i = source.choice(tiles)
        if way == 0:
            return mirror(stream), mirrored(picture), changed(setting, rect=(-x1, -x0, y0, y1))
        if way == 1:
            result = swap(stream)
            other = "".join("Y" if letter == "X" else "X" for letter in setting.word)
            return result, swapped(picture), changed(setting, rect=(y0, y1, x0, x1), tx=setting.ty, ty=setting.tx, word=other)
        if way == 2 and setting.word:
            result = shrink(stream, 1)
            return result, shrunk(picture, setting, 1), result.setting
        if way == 3:
            return take(stream, j, j + 1, i, i + 1), taken(picture, setting, j, j + 1, i, i + 1), changed(
                setting, rect=tile_rect(setting, j, i))
        if way == 4:
            a, b = source.randint(-5, 5), source.randint(-5, 5)
            rect = (x0 + (a << setting.tx), x1 + (a << setting.tx), y0 + (b << setting.ty), y1 + (b << setting.ty))
            return shift(stream, a, b), Picture(rect, picture.channels), changed(setting, rect=rect)
        if way == 5:
            order = source.choice(ORDERS)
            return reorder(stream, order), picture, changed(setting, order=order)
        if way == 6:
            c = source.randint(-9, 9)
            return lighten(stream, c), lighter(picture, c), setting
        if way == 7:
            tx, ty = source.randint(setting.word.count("X"), 5), source.randint(setting.word.count("Y"), 5)
            return retile(stream, tx, ty), picture, changed(setting, tx=tx, ty=ty)
        layers = source.choice(((27,), (1, 26), (9, 9, 9), (2, 5, 7, 1, 1, 11)))
        return relayer(stream, 9, layers), picture, changed(setting, layers=layers)

    def test_in_a_studio(self):
        for number, setting, picture in itertools.islice(all_ways(), 0, None, 5):
            studio = Studio()
            stream = code(picture, setting)
            studio.do(("put", "one", stream))
            studio.do(("copy", "one", "two"))
            for row in (("turn", "one", "MS"), ("layers", "two", 1), ("turn", "two", "MS")):
                studio.do(row)
            self.assertEqual(stream_told(studio.stream("two")), stream_told(keep_layers(turned(stream, "MS"), 1)))
            found = studio.tried([("shift", "one", 2, 1), ("cut", "one", 3)])
            self.assertEqual(stream_told(found["one"]), stream_told(cut(shift(turned(stream, "MS"), 2, 1), 3)))
            for _ in range(3):
                studio.undo()
            self.assertEqual(stream_told(studio.stream("one")), stream_told(stream))

    def test_patched_tile_by_tile_and_turned(self):
        for number, setting, picture in itertools.islice(all_ways(), 0, None, 5):
            other = coded_picture(setting, number + 100)
            stream = code(picture, setting)
            for j, i in tiles_of(setting):
                stream = patch(stream, j, i, part_of(other, tile_rect(setting, j, i)))
            self.assert_same(turned(stream, "MSMSM"), mirrored(swapped(mirrored(swapped(mirrored(other))))),
                             turned(stream, "MSMSM").setting)

    def test_films(self):
        for number, setting, _ in itertools.islice(all_ways(), 0, None, 6):
            leans = (None, 0, 0, 2)
            pictures = some_pictures(setting, leans, number)
            made = read_film(film_bits(film(pictures, setting, leans)))
            result = film_turned(made, "MS")
            moved = [swapped(mirrored(picture)) for picture in pictures]
            self.assertEqual(film_told(result), film_told(film(moved, result.setting, leans)))


class DamageTest(unittest.TestCase):
    """(e) Flipped bits cost no more than a cut of pieces, and nothing with one bad cell a group."""

    def setUp(self):
        self.source = random.Random(8)

    def damaged(self, protected, numbers):
        """The bits with one to three flipped ones in each of these cells."""
        return flipped(protected, [(number, place) for number in numbers
                                   for place in self.source.sample(range(CELL), self.source.randint(1, 3))])

    def test_one_bad_cell_a_group(self):
        for number, setting, picture in all_ways():
            bits = stream_bits(code(picture, setting))
            group = number % 8 + 1
            protected = protect(bits, group)
            count = len(protected) // CELL
            starts = range(0, count, group + 1)
            numbers = [self.source.randrange(start, min(count, start + group + 1)) for start in starts]
            damaged = self.damaged(protected, numbers)
            self.assertEqual([at for at, is_good in enumerate(good(damaged, group)) if not is_good], numbers)
            self.assertEqual(open_cells(damaged, group), bits)
            self.assertEqual(box_told(read_holes(open_cells(damaged, group))), box_told(told_box(bits)))

    def test_any_bad_cells(self):
        found = {"nothing": 0, "no box": 0, "box": 0, "all": 0}
        for number, setting, picture in all_ways():
            stream = code(picture, setting)
            bits = stream_bits(stream)
            for group in (1, 3, 8):
                protected = protect(bits, group)
                count = len(protected) // CELL
                for _ in range(4):
                    numbers = self.source.sample(range(count), min(count, self.source.randint(1, 5)))
                    opened = open_cells(self.damaged(protected, numbers), group)
                    if opened is None:
                        self.assertEqual(data_numbers(count, group)[0], 0)
                        self.assertIn(0, numbers)
                        found["nothing"] += 1
                        continue
                    for bit, true_bit in zip(opened, bits):
                        self.assertTrue(bit is None or bit == true_bit)
                    self.assertEqual(len(opened), len(bits))
                    box = read_holes(opened)
                    if box is None:
                        found["no box"] += 1
                        continue
                    found["all" if opened == bits else "box"] += 1
                    self.assertTrue(picture in box)
                    self.assertTrue(told_box(bits).inside(box))
                    paper = make(stream, "in", sum(len(piece) for piece in stream))
                    self.assertTrue(paper[2] in box)
        self.assertGreater(min(found.values()), 10, found)

    def test_a_way_from_the_picture_to_its_text(self):
        for number, setting, picture in itertools.islice(all_ways(), 0, None, 4):
            stream = code(picture, setting, layers=1)
            self.assertTrue(is_right(stream))
            text = text_of_stream(turned(stream, "SM"))
            protected = protect(stream_bits(stream_of(text)), 2)
            opened = open_cells(self.damaged(protected, [number % (len(protected) // CELL)]), 2)
            box = read_holes(opened)
            self.assertTrue(mirrored(swapped(picture)) in box)
            again = read_stream(opened)
            many = sum(len(piece) for piece in again)
            paper = make(again, "off", many, (mirrored(swapped(picture)),))
            self.assertTrue(judge(again, paper))
            self.assertTrue(judge(again, make(again, "in", many // 2)))


class KindsTest(unittest.TestCase):

    def test_all_errors_stand_directly_under_one(self):
        for name in ("BadBits", "Great", "BadField", "TooMany", "TooFew", "BadGrid", "Unlike", "Outside", "Cut",
                     "Coloured", "Over", "BadCells", "BadText", "NoFrame", "Last", "NoStream", "NothingToUndo",
                     "BadDeed"):
            self.assertEqual(getattr(errors, name).__bases__, (errors.NarrowError,))
        self.assertEqual(errors.NarrowError.__bases__, (ValueError,))

    def test_boxes_of_all_kinds(self):
        """Boxes of streams, prefixes, holes and frames may be compared with one another."""
        for number, setting, picture in itertools.islice(all_ways(), 0, None, 4):
            stream = code(picture, setting)
            bits = stream_bits(stream)
            made = film([picture], setting, [None])
            boxes = [box_of(stream), told_box(bits), read_holes(bits), frame_box(made, 0), told_film(film_bits(made))[0]]
            for one, other in itertools.product(boxes, boxes):
                self.assertIsInstance(one, Box)
                self.assertTrue(one.inside(other))
                self.assertEqual(told(one.meet(other).nearest()), told(picture))
            self.assertEqual([told(one) for one in members_of(boxes[0])], [told(picture)])
            self.assertEqual(coefs_of(picture, setting), coefs_of(boxes[2].nearest(), setting))
            self.assertEqual(channel_count(setting), len(picture.channels))


if __name__ == "__main__":
    unittest.main()
