"""The studio: point [32]."""

import random
import unittest

from narrowingbits.cutting import cut, keep_layers
from narrowingbits.errors import (BadDeed, BadField, Cut, NarrowError, NoStream, NothingToUndo, Outside, TooFew,
                                  TooMany)
from narrowingbits.moving import shift, shrink, take
from narrowingbits.pictures import Picture
from narrowingbits.settings import Setting
from narrowingbits.streams import Stream, code
from narrowingbits.studio import Studio
from narrowingbits.turning import lighten, turned

from picture_reference import stream_told

TWO_CELLS = Setting((0, 2, 0, 1), 0, 1, 0, "X", 3, (3, 6), "LBTC")
EXAMPLE = code(Picture((0, 2, 0, 1), [[[5, 2]]]), TWO_CELLS)
OTHER = code(Picture((0, 2, 0, 1), [[[-1, 3]]]), TWO_CELLS)
WIDE = code(Picture((0, 4, 0, 1), [[[5, 2, 1, 0]]]), Setting((0, 4, 0, 1), 0, 1, 0, "X", 3, (3, 6), "LBTC"))
SIZES = {"put": 2, "copy": 2, "drop": 1, "cut": 2, "layers": 2, "shrink": 2, "take": 5, "shift": 3, "turn": 2,
         "lighten": 2}
NO_NAMES = ("", "A", "aA", "abcdefghi", "a1", "a b", " ", "a-", "\u00e4", "a\n", None, 5, ("a",), "\u0430")
NAMES = ("a", "z", "abcdefgh", "zzzzzzzz", "az", "mn")


class Mishap(Exception):
    """What a test raises within a trial."""


def held(studio):
    """What a studio tells: its names with their streams, and how many rows can be undone and redone."""
    return {name: stream_told(studio.stream(name)) for name in studio.names()}


def history(studio):
    """What the studio holds along all rows that can be undone and redone; it is left as it was."""
    found = [held(studio)]
    undone = 0
    while True:
        try:
            studio.undo()
        except NothingToUndo:
            break
        undone += 1
        found.insert(0, held(studio))
    for _ in range(undone):
        studio.redo()
    redone = 0
    while True:
        try:
            studio.redo()
        except NothingToUndo:
            break
        redone += 1
        found.append(held(studio))
    for _ in range(redone):
        studio.undo()
    return (undone, found)


def studio_with(*names):
    studio = Studio()
    for name in names:
        studio.do(("put", name, EXAMPLE))
    return studio


class StudioTest(unittest.TestCase):

    def assert_refused(self, studio, error, row, **told):
        before = history(studio)
        with self.assertRaises(error, msg=row) as caught:
            studio.do(row)
        for word, thing in told.items():
            self.assertEqual(getattr(caught.exception, word), thing)
        self.assertEqual(history(studio), before)

    def assert_nothing(self, call):
        with self.assertRaises(NothingToUndo):
            call()


class RowsTest(StudioTest):

    def test_a_new_studio(self):
        studio = Studio()
        self.assertEqual(studio.names(), [])
        self.assert_nothing(studio.undo)
        self.assert_nothing(studio.redo)
        for name in ("a", "abcdefgh"):
            with self.assertRaises(NoStream) as caught:
                studio.stream(name)
            self.assertEqual(caught.exception.name, name)

    def test_put(self):
        studio = Studio()
        self.assertIsNone(studio.do(("put", "b", EXAMPLE)))
        self.assertIsNone(studio.do(row=("put", "a", OTHER)))
        self.assertEqual(studio.names(), ["a", "b"])
        self.assertEqual(stream_told(studio.stream("b")), stream_told(EXAMPLE))
        self.assertEqual(stream_told(studio.stream(name="a")), stream_told(OTHER))
        studio.do(("put", "b", OTHER))
        self.assertEqual(studio.names(), ["a", "b"])
        self.assertEqual(stream_told(studio.stream("b")), stream_told(OTHER))
        self.assertIsInstance(studio.stream("b"), Stream)

    def test_copy(self):
        studio = studio_with("one")
        studio.do(("put", "old", OTHER))
        studio.do(("copy", "one", "new"))
        studio.do(("copy", "one", "old"))
        studio.do(("copy", "one", "one"))
        self.assertEqual(held(studio), {name: stream_told(EXAMPLE) for name in ("new", "old", "one")})
        studio.do(("lighten", "one", 1))
        self.assertEqual(stream_told(studio.stream("new")), stream_told(EXAMPLE))
        # The copy to the same name was a row like others.
        same = {name: stream_told(EXAMPLE) for name in ("new", "old", "one")}
        for expected in (same, same, {**same, "old": stream_told(OTHER)}):
            studio.undo()
            self.assertEqual(held(studio), expected)
        for names in (["old", "one"], ["one"], []):
            studio.undo()
            self.assertEqual(studio.names(), names)
        self.assert_nothing(studio.undo)

    def test_drop(self):
        studio = studio_with("a", "b")
        studio.do(("drop", "a"))
        self.assertEqual(studio.names(), ["b"])
        with self.assertRaises(NoStream) as caught:
            studio.stream("a")
        self.assertEqual(caught.exception.name, "a")
        self.assert_refused(studio, NoStream, ("drop", "a"), name="a")
        studio.do(("drop", "b"))
        self.assertEqual(studio.names(), [])

    def test_deeds(self):
        for row, expected in ((("cut", "a", 4), cut(WIDE, 4)), (("layers", "a", 1), keep_layers(WIDE, 1)),
                              (("shrink", "a", 1), shrink(WIDE, 1)), (("take", "a", 0, 1, 1, 2), take(WIDE, 0, 1, 1, 2)),
                              (("shift", "a", -3, 7), shift(WIDE, -3, 7)), (("turn", "a", "SM"), turned(WIDE, "SM")),
                              (("turn", "a", ""), WIDE), (("lighten", "a", -2), lighten(WIDE, -2))):
            studio = studio_with("b")
            studio.do(("put", "a", WIDE))
            studio.do(row)
            self.assertEqual(stream_told(studio.stream("a")), stream_told(expected))
            self.assertEqual(stream_told(studio.stream("b")), stream_told(EXAMPLE))
            studio.undo()
            self.assertEqual(stream_told(studio.stream("a")), stream_told(WIDE))
            studio.redo()
            self.assertEqual(stream_told(studio.stream("a")), stream_told(expected))

    def test_names(self):
        for name in NAMES:
            studio = studio_with(name)
            self.assertEqual(studio.names(), [name])
        self.assertEqual(studio_with("b", "abc", "a", "z", "ab").names(), ["a", "ab", "abc", "b", "z"])
        for name in NO_NAMES:
            with self.assertRaises(NoStream):
                studio_with("a").stream("none")
            for row in (("put", name, EXAMPLE), ("copy", name, "a"), ("copy", "a", name), ("copy", "x", name),
                        ("copy", name, name), ("drop", name), ("cut", name, 0), ("layers", name, 0), ("shrink", name, 0),
                        ("take", name, 0, 1, 0, 1), ("shift", name, 0, 0), ("turn", name, "M"), ("lighten", name, 0)):
                self.assert_refused(studio_with("a"), BadDeed, row)

    def test_words_and_numbers_of_things(self):
        for studio in (Studio(), studio_with("a", "b")):
            for row in ((), ("",), ("PUT", "a", EXAMPLE), ("keep", "a"), ("undo",), ("mirror", "a"), (None, "a"),
                        ("thin", "a", [1]), ("cut ", "a", 1)):
                self.assert_refused(studio, BadDeed, row)
            for word, many in SIZES.items():
                for other in range(7):
                    if other != many:
                        self.assert_refused(studio, BadDeed, (word, "a", "b", 1, 2, 3, 4, 5)[:other + 1])

    def test_no_streams_ahead_of_deeds(self):
        studio = studio_with("a")
        for row in (("copy", "b", "a"), ("copy", "b", "c"), ("drop", "b"), ("cut", "b", -1), ("layers", "b", 99),
                    ("shrink", "b", 99), ("take", "b", 5, 5, 5, 5), ("shift", "b", 10 ** 20, 0), ("turn", "b", "x"),
                    ("lighten", "b", 10 ** 9)):
            self.assert_refused(studio, NoStream, row, name="b")

    def test_what_deeds_raise(self):
        studio = studio_with("a")
        studio.do(("put", "cut", cut(EXAMPLE, 1)))
        many = sum(len(piece) for piece in EXAMPLE)
        for row, error in ((("cut", "a", -1), Outside), (("cut", "a", many + 1), Outside), (("layers", "a", 3), Outside),
                           (("layers", "a", -1), Outside), (("shrink", "a", 2), Outside),
                           (("take", "a", 0, 1, 0, 2), Outside), (("take", "a", 0, 0, 0, 1), Outside),
                           (("turn", "cut", ""), Cut), (("turn", "cut", "x"), Cut), (("lighten", "cut", 1), Cut)):
            self.assert_refused(studio, error, row)
        self.assert_refused(studio, BadField, ("shift", "a", 2 ** 30, 0), name="x0")
        self.assert_refused(studio, BadField, ("shift", "a", 0, 2 ** 30), name="height")
        self.assert_refused(studio, BadField, ("turn", "a", "MSx"), name="motion")
        self.assert_refused(studio, TooFew, ("lighten", "a", 5), planes=3)

    def test_six_names_and_a_seventh(self):
        studio = studio_with("a", "b", "c", "d", "e", "f")
        self.assertEqual(len(studio.names()), 6)
        for row in (("put", "g", EXAMPLE), ("copy", "a", "g")):
            self.assert_refused(studio, TooMany, row, most=6)
        self.assert_refused(studio, NoStream, ("copy", "g", "h"), name="g")
        self.assert_refused(studio, BadDeed, ("copy", "a", "G"))
        for row in (("put", "a", OTHER), ("copy", "a", "f"), ("copy", "b", "b"), ("lighten", "f", 1)):
            studio.do(row)
        studio.do(("drop", "c"))
        studio.do(("put", "g", EXAMPLE))
        self.assertEqual(studio.names(), ["a", "b", "d", "e", "f", "g"])
        self.assert_refused(studio, TooMany, ("copy", "a", "c"), most=6)
        studio.undo()
        studio.do(("copy", "a", "c"))
        self.assertEqual(studio.names(), ["a", "b", "c", "d", "e", "f"])


class UndoTest(StudioTest):

    def test_undo_and_redo(self):
        studio = Studio()
        rows = [("put", "a", EXAMPLE), ("copy", "a", "b"), ("lighten", "b", 2), ("cut", "a", 5), ("drop", "a"),
                ("shift", "b", 1, 1), ("turn", "b", "M"), ("shrink", "b", 1)]
        states = [held(studio)]
        for row in rows:
            studio.do(row)
            states.append(held(studio))
        self.assertEqual(history(studio), (8, states))
        for state in states[-2::-1]:
            self.assertIsNone(studio.undo())
            self.assertEqual(held(studio), state)
        self.assert_nothing(studio.undo)
        self.assertEqual(held(studio), states[0])
        for state in states[1:]:
            self.assertIsNone(studio.redo())
            self.assertEqual(held(studio), state)
        self.assert_nothing(studio.redo)
        self.assertEqual(held(studio), states[-1])

    def test_another_row_ends_what_can_be_redone(self):
        studio = studio_with("a", "b", "c")
        studio.undo()
        studio.undo()
        # A refused row is none.
        self.assert_refused(studio, NoStream, ("drop", "c"), name="c")
        studio.redo()
        self.assertEqual(studio.names(), ["a", "b"])
        studio.do(("copy", "a", "a"))
        self.assert_nothing(studio.redo)
        studio.undo()
        studio.redo()
        studio.undo()
        studio.undo()
        self.assertEqual(studio.names(), ["a"])
        studio.redo()
        studio.redo()
        self.assert_nothing(studio.redo)
        self.assertEqual(studio.names(), ["a", "b"])

    def test_more_than_60_rows(self):
        for more in (0, 1, 2, 30, 75):
            studio = Studio()
            streams = [shift(EXAMPLE, number, 0) for number in range(60 + more)]
            for stream in streams:
                studio.do(("put", "a", stream))
            for number in range(60 + more - 2, more - 1, -1):
                studio.undo()
                self.assertEqual(stream_told(studio.stream("a")), stream_told(streams[number]))
            studio.undo()
            if more == 0:
                self.assertEqual(studio.names(), [])
            else:
                self.assertEqual(stream_told(studio.stream("a")), stream_told(streams[more - 1]))
            self.assert_nothing(studio.undo)
            for number in range(more, 60 + more):
                studio.redo()
                self.assertEqual(stream_told(studio.stream("a")), stream_told(streams[number]))
            self.assert_nothing(studio.redo)
            for _ in range(60):
                studio.undo()
            self.assert_nothing(studio.undo)

    def test_rows_behind_undone_ones(self):
        """Of more than 60 rows that can be undone the oldest is forgotten, undone ones do not count."""
        studio = Studio()
        for number in range(60):
            studio.do(("put", "a", shift(EXAMPLE, number, 0)))
        for _ in range(10):
            studio.undo()
        for number in range(10):
            studio.do(("put", "b", shift(OTHER, number, 0)))
        undone, states = history(studio)
        self.assertEqual(undone, 60)
        self.assertEqual(states[0], {})
        studio.do(("drop", "b"))
        undone, states = history(studio)
        self.assertEqual(undone, 60)
        self.assertEqual(list(states[0]), ["a"])

    def test_by_a_list_of_states(self):
        source = random.Random(1)
        studio = Studio()
        states, at = [held(studio)], 0
        for _ in range(700):
            way = source.randrange(10)
            if way < 3:
                if at == 0:
                    self.assert_nothing(studio.undo)
                else:
                    studio.undo()
                    at -= 1
            elif way < 5:
                if at == len(states) - 1:
                    self.assert_nothing(studio.redo)
                else:
                    studio.redo()
                    at += 1
            else:
                name = source.choice("abcdefgh")
                row = source.choice((("put", name, EXAMPLE), ("put", name, OTHER), ("copy", name, source.choice("abcdefgh")),
                                     ("lighten", name, source.randint(-3, 3)), ("turn", name, "M"), ("drop", name)))
                try:
                    studio.do(row)
                except NarrowError:
                    pass
                else:
                    states = states[:at + 1] + [held(studio)]
                    states = states[-61:]
                    at = len(states) - 1
            self.assertEqual(held(studio), states[at])
        self.assertEqual(history(studio), (at, states))


class TrialTest(StudioTest):

    def studio(self):
        """A studio with rows that can be undone and one that can be redone."""
        studio = studio_with("a", "b")
        studio.do(("lighten", "a", 1))
        studio.do(("drop", "b"))
        studio.undo()
        return studio

    def test_a_trial(self):
        studio = self.studio()
        before = history(studio)
        with studio.trial():
            self.assertEqual(history(studio), before)
            studio.do(("put", "c", OTHER))
            studio.do(("drop", "a"))
            self.assertEqual(studio.names(), ["b", "c"])
            self.assert_nothing(studio.redo)
            studio.undo()
            studio.undo()
            studio.undo()
            self.assertEqual(studio.names(), ["a", "b"])
        self.assertEqual(history(studio), before)
        with studio.trial():
            studio.redo()
            self.assertEqual(studio.names(), ["a"])
        self.assertEqual(history(studio), before)
        with studio.trial():
            for _ in range(3):
                studio.undo()
            self.assert_nothing(studio.undo)
        self.assertEqual(history(studio), before)
        with studio.trial():
            for number in range(100):
                studio.do(("put", "d", shift(OTHER, number, 0)))
        self.assertEqual(history(studio), before)

    def test_a_trial_that_an_exception_ends(self):
        studio = self.studio()
        before = history(studio)
        for error in (Mishap, KeyError, ZeroDivisionError):
            with self.assertRaises(error):
                with studio.trial():
                    studio.do(("drop", "a"))
                    raise error()
            self.assertEqual(history(studio), before)
        with self.assertRaises(NoStream):
            with studio.trial():
                studio.do(("drop", "a"))
                studio.do(("drop", "a"))
        self.assertEqual(history(studio), before)
        with self.assertRaises(NothingToUndo):
            with studio.trial():
                studio.redo()
                studio.redo()
        self.assertEqual(history(studio), before)

    def test_trials_in_trials(self):
        studio = self.studio()
        before = history(studio)
        with studio.trial():
            studio.do(("drop", "a"))
            between = history(studio)
            with studio.trial():
                studio.undo()
                studio.do(("put", "c", OTHER))
                third = history(studio)
                try:
                    with studio.trial():
                        studio.do(("drop", "c"))
                        raise Mishap()
                except Mishap:
                    pass
                self.assertEqual(history(studio), third)
            self.assertEqual(history(studio), between)
            with studio.trial():
                studio.do(("drop", "b"))
            self.assertEqual(history(studio), between)
        self.assertEqual(history(studio), before)
        with self.assertRaises(Mishap):
            with studio.trial():
                studio.do(("drop", "a"))
                with studio.trial():
                    studio.do(("drop", "b"))
                    raise Mishap()
        self.assertEqual(history(studio), before)

    def test_when_it_is_entered(self):
        """As they were when the with statement entered it, not when it was asked for."""
        studio = self.studio()
        trial = studio.trial()
        studio.do(("put", "c", OTHER))
        before = history(studio)
        with trial:
            studio.do(("drop", "a"))
        self.assertEqual(history(studio), before)
        one, other = studio.trial(), studio.trial()
        with other:
            studio.do(("drop", "b"))
            between = history(studio)
            with one:
                studio.do(("drop", "a"))
            self.assertEqual(history(studio), between)
        self.assertEqual(history(studio), before)

    def test_a_trial_that_is_left(self):
        studio = self.studio()
        before = history(studio)

        def left():
            with studio.trial():
                studio.do(("drop", "a"))
                return studio.names()

        self.assertEqual(left(), ["b"])
        self.assertEqual(history(studio), before)
        for number in range(3):
            with studio.trial():
                studio.do(("drop", "a"))
                if number == 1:
                    break
        self.assertEqual(history(studio), before)
        with studio.trial():
            pass
        self.assertEqual(history(studio), before)

    def test_of_another_studio(self):
        studio, other = self.studio(), self.studio()
        with studio.trial():
            other.do(("drop", "a"))
            studio.do(("drop", "b"))
        self.assertEqual((studio.names(), other.names()), (["a", "b"], ["b"]))


class TriedTest(StudioTest):

    def test_tried(self):
        studio = studio_with("m", "b")
        studio.undo()
        before = history(studio)
        rows = [("put", "z", OTHER), ("copy", "m", "a"), ("lighten", "a", 2), ("drop", "m")]
        found = studio.tried(rows)
        self.assertIsInstance(found, dict)
        self.assertEqual(list(found), ["a", "z"])
        self.assertEqual(stream_told(found["a"]), stream_told(lighten(EXAMPLE, 2)))
        self.assertEqual(stream_told(found["z"]), stream_told(OTHER))
        self.assertEqual(history(studio), before)
        self.assertEqual(len(rows), 4)
        found.clear()
        self.assertEqual(list(studio.tried(rows=rows)), ["a", "z"])
        self.assertEqual(list(studio.tried([])), ["m"])
        self.assertEqual(history(studio), before)

    def test_a_row_that_is_refused(self):
        studio = studio_with("a", "b")
        studio.undo()
        before = history(studio)
        for rows, error in (([("drop", "a"), ("drop", "a")], NoStream), ([("drop", "a"), ("gone", "a")], BadDeed),
                            ([("lighten", "a", 9)], TooFew), ([("cut", "a", 1), ("turn", "a", "")], Cut),
                            ([("copy", "a", name) for name in ("c", "d", "e", "f", "g", "h")], TooMany)):
            with self.assertRaises(error):
                studio.tried(rows)
            self.assertEqual(history(studio), before)

    def test_in_trials_and_of_many_rows(self):
        studio = studio_with("a")
        with studio.trial():
            studio.do(("drop", "a"))
            self.assertEqual(studio.tried([("put", "b", OTHER)]).keys(), {"b"})
            self.assertEqual(studio.names(), [])
            self.assertEqual(list(studio.tried([("put", "b", shift(OTHER, n, 0)) for n in range(200)])), ["b"])
        self.assertEqual(history(studio)[0], 1)


class NothingChangedTest(StudioTest):

    def test_streams_handed_out_and_in(self):
        before = stream_told(EXAMPLE)
        studio = studio_with("a")
        given = studio.stream("a")
        given.pieces[0].append(1)
        given.pieces.append([1])
        names = studio.names()
        names.append("q")
        studio.do(("lighten", "a", 1))
        self.assertEqual(stream_told(given), before)
        self.assertEqual(stream_told(EXAMPLE), before)
        self.assertEqual(studio.names(), ["a"])
        self.assertEqual(stream_told(studio.stream("a")), stream_told(lighten(EXAMPLE, 1)))
        # A stream that was handed out may be put in again, into another studio, too.
        other = Studio()
        other.do(("put", "b", given))
        other.do(("put", "c", studio.stream("a")))
        studio.do(("put", "a", other.stream("b")))
        self.assertEqual(stream_told(studio.stream("a")), before)
        self.assertEqual(other.names(), ["b", "c"])

    def test_rows_that_are_tried_stay(self):
        rows = [("put", "a", EXAMPLE), ("drop", "a")]
        before = list(rows)
        self.assertEqual(Studio().tried(rows), {})
        self.assertEqual(rows, before)


if __name__ == "__main__":
    unittest.main()
