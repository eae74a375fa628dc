"""Films as bits: points [13] and [26]."""

import unittest

from narrowingbits.errors import BadBits, BadField, Outside, Over, TooMany
from narrowingbits.filmbits import film_bits, film_cut, read_film, told_film
from narrowingbits.filmboxes import frame_box
from narrowingbits.films import Film, film
from narrowingbits.pictures import Picture
from narrowingbits.settings import Setting
from narrowingbits.streams import Stream

from film_reference import (FILM_MARK, LEANS, TWO_CELLS, bits_of_film, cut_by_words, film_settings, film_told,
                            front_of, made_film, payload_of, spoilt_film)
from head_reference import MARK, count_code, index_of, joined, parts_of, too_many, wrong_beginnings
from picture_reference import box_told, changed

HEAD = "1 010 1 1 1 010 1 010 0 011 1 0001001 0001110"
NO_BITS = (2, -1, "0", None, 1.5, [0])
EXAMPLE = film([Picture((0, 2, 0, 1), [[[5, 2]]]), Picture((0, 2, 0, 1), [[[6, 2]]])], TWO_CELLS, [None, 0])


def bits_of(text):
    return [int(digit) for digit in text.replace(" ", "")]


def films():
    """Films that are whole, cut, and spoilt."""
    for number, (setting, leans) in enumerate(film_settings()):
        made = made_film(setting, leans, number)
        yield made
        yield spoilt_film(made, number)
        yield cut_by_words(made, len(payload_of(made)) // 2)


def head(**things):
    """The bits of a film's setting."""
    return joined(parts_of(mark=FILM_MARK, **things))


def wrong_bits():
    """Beginnings of a film's bits (error, name, bits) whose last bit is the first one that shows what is wrong."""
    for at in range(8):
        mark = list(FILM_MARK)
        mark[at] = 1 - mark[at]
        yield BadField, "mark", mark
    yield BadField, "mark", [0] * 8
    for name, bits in wrong_beginnings():
        # Those of lengths stand behind the leans here.
        if name not in ("mark", "length"):
            assert bits[:8] == MARK
            yield BadField, name, FILM_MARK + bits[8:]
    yield TooMany, 2000, FILM_MARK + too_many()[8:]
    for many in (8, 9, 10 ** 6, 2 ** 41 - 2):
        yield BadField, "frames", head() + count_code(many)
    yield BadField, "frames", head() + [0] * 41
    for steps in ([1], [2], [2 ** 40], [0, 2], [0, 1, 3], [0, 0, 0, 4], [0, 1, 2, 3, 4, 5, 6, 8], [0, 0, 2 ** 41 - 2]):
        yield BadField, "lean", head() + count_code(7) + index_of(steps)
    for steps in ([], [0], [0, 1], [0, 0, 2], [0] * 7):
        yield BadField, "lean", head() + count_code(7) + index_of(steps) + [0] * 41
    for lengths in ((2 ** 20 + 1,), (6, 2 ** 20 + 1), (6, 6, 2 ** 41 - 2), (0, 0, 0, 2 ** 20 + 1)):
        yield BadField, "length", head() + count_code(1) + index_of([0, 1]) + index_of(lengths)
    for lengths in ((), (6,), (6, 0), (2 ** 20, 0, 2 ** 20)):
        yield BadField, "length", head() + count_code(1) + index_of([0, 1]) + index_of(lengths) + [0] * 41


class WriteTest(unittest.TestCase):

    def test_the_example(self):
        self.assertEqual(EXAMPLE.frames[1][1].pieces[0], EXAMPLE.frames[1][1].pieces[1])
        one = EXAMPLE.frames[1][1].pieces[0]
        expected = bits_of("10110011" + HEAD + "010 1 010 00111 00111") + count_code(len(one)) * 2
        self.assertEqual(film_bits(EXAMPLE), expected + bits_of("001111 001111") + one + one)

    def test_by_the_words_of_the_point(self):
        for made in films():
            before = film_told(made)
            found = film_bits(film=made)
            self.assertEqual(found, bits_of_film(made))
            found.append(1)
            self.assertEqual(film_bits(made), bits_of_film(made))
            self.assertEqual(film_told(made), before)


class ReadTest(unittest.TestCase):

    def test_what_is_written_is_read_back(self):
        for made in films():
            bits = film_bits(made)
            again = read_film(bits)
            self.assertIsInstance(again, Film)
            self.assertEqual(film_told(again), film_told(made))
            self.assertEqual(bits, film_bits(made))
            bits.clear()
            self.assertEqual(film_told(again), film_told(made))

    def test_too_many_bits(self):
        for made in films():
            for more in ([0], [1], [0] * 50, film_bits(made)):
                for question in (read_film, told_film):
                    with self.assertRaises(Over):
                        question(film_bits(made) + more)
        front = front_of(cut_by_words(EXAMPLE, 0))
        self.assertEqual(len(told_film(front)), 2)
        with self.assertRaises(Over):
            read_film(front + [0])

    def test_lacking_bits(self):
        for made in list(films())[:12]:
            bits = film_bits(made)
            for n in range(len(bits)):
                with self.assertRaises(BadBits):
                    read_film(bits[:n])

    def test_along_all_beginnings(self):
        for number, made in enumerate(list(films())[:18]):
            front, payload = front_of(made), payload_of(made)
            # Of the greater films a part of the places in their payload.
            step = 1 if number < 9 else 1 + len(payload) // 40
            for n in range(len(front)):
                self.assertIsNone(told_film((front + payload)[:n]))
            for n in list(range(0, len(payload), step)) + [len(payload)]:
                shorter = cut_by_words(made, n)
                boxes = told_film(front + payload[:n])
                self.assertIsInstance(boxes, list)
                self.assertEqual([box_told(box) for box in boxes],
                                 [box_told(frame_box(shorter, k)) for k in range(len(made.frames))])

    def test_boxes_never_widen(self):
        bits = film_bits(EXAMPLE)
        before = None
        for n in range(len(front_of(EXAMPLE)), len(bits) + 1):
            boxes = told_film(bits[:n])
            for box, wider in zip(boxes, before or boxes):
                self.assertTrue(box.inside(wider))
            self.assertEqual(boxes[1].members() == 1, n == len(bits))
            before = boxes

    def test_what_is_wrong_at_its_last_bit_and_not_before(self):
        for error, name, bits in wrong_bits():
            for question in (read_film, told_film):
                for more in ([], [0], [1], [0, 1] * 40):
                    with self.assertRaises(error, msg=(name, bits)) as caught:
                        question(bits + more)
                    self.assertEqual(caught.exception.most if error is TooMany else caught.exception.name, name)
            self.assertIsNone(told_film(bits[:-1]), (name, bits))
            with self.assertRaises(BadBits):
                read_film(bits[:-1])

    def test_forty_zeros(self):
        for bits in (FILM_MARK, head(), head() + count_code(1), head() + count_code(1) + count_code(0),
                     head() + count_code(1) + count_code(0) + count_code(1)):
            self.assertIsNone(told_film(bits + [0] * 40))
            with self.assertRaises(BadField):
                told_film(bits + [0] * 41)

    def test_what_is_no_bit_ahead_of_all_others(self):
        for thing in NO_BITS:
            for bits in ([thing], FILM_MARK + [thing], [0] * 8 + [thing], MARK + [thing], [0] * 60 + [thing, 0],
                         film_bits(EXAMPLE) + [thing], film_bits(EXAMPLE) + [0, 0, thing],
                         head() + [0] * 41 + [thing]):
                for question in (read_film, told_film):
                    with self.assertRaises(BadBits):
                        question(bits)

    def test_the_mark_of_a_stream(self):
        for question in (read_film, told_film):
            with self.assertRaises(BadField) as caught:
                question(MARK + film_bits(EXAMPLE)[8:])
            self.assertEqual(caught.exception.name, "mark")

    def test_all_leans(self):
        for leans in LEANS:
            made = made_film(changed(TWO_CELLS, order="TLCB"), leans, 2)
            again = read_film(film_bits(made))
            self.assertEqual([lean for lean, _ in again.frames], list(leans))

    def test_a_thing_at_a_time(self):
        """TooMany is about the pieces of one frame alone."""
        setting = Setting((0, 20, 0, 20), 0, 0, 0, "", 2, (1, 1, 1, 1, 2), "LBTC")
        made = Film(setting, [(None, Stream(setting, [[]] * 2000)), (0, Stream(setting, [[1]] * 2000))])
        self.assertEqual(film_told(read_film(film_bits(made))), film_told(made))


class FilmCutTest(unittest.TestCase):

    def test_all_numbers(self):
        for made in list(films())[:15]:
            many = len(payload_of(made))
            for n in list(range(0, many, 1 + many // 80)) + [many]:
                shorter = film_cut(n=n, film=made)
                self.assertIsInstance(shorter, Film)
                self.assertEqual(film_told(shorter), film_told(cut_by_words(made, n)))
                boxes = told_film(front_of(made) + payload_of(made)[:n])
                self.assertEqual([box_told(box) for box in boxes],
                                 [box_told(frame_box(shorter, k)) for k in range(len(made.frames))])

    def test_outside(self):
        for made in films():
            before = film_told(made)
            many = len(payload_of(made))
            for n in (-1, many + 1, 10 ** 20, -10 ** 20):
                with self.assertRaises(Outside):
                    film_cut(made, n)
            self.assertEqual(film_told(film_cut(made, many)), before)
            self.assertEqual(film_told(made), before)


if __name__ == "__main__":
    unittest.main()
