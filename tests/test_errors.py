"""Errors: points [0.1] and [0.2], and the interface's list under narrowingbits/errors.py."""

import unittest

from narrowingbits import errors

PLAIN = ("BadBits", "Great", "BadGrid", "Unlike", "Outside", "Cut", "Coloured", "Over", "BadCells",
         "Last", "NothingToUndo", "BadDeed")
TELLING = (("BadField", "name", "x0"), ("TooMany", "most", 2000), ("TooFew", "planes", 3),
           ("BadText", "row", 0), ("NoFrame", "number", 7), ("NoStream", "name", "abc"))
NAMES = PLAIN + tuple(row[0] for row in TELLING)


class ErrorsTest(unittest.TestCase):

    def test_narrow_error_stands_under_value_error(self):
        self.assertEqual(errors.NarrowError.__bases__, (ValueError,))

    def test_each_error_stands_directly_under_narrow_error(self):
        for name in NAMES:
            self.assertEqual(getattr(errors, name).__bases__, (errors.NarrowError,), name)

    def test_the_list_is_whole(self):
        there = [name for name in vars(errors) if isinstance(vars(errors)[name], type)]
        self.assertEqual(sorted(there), sorted(NAMES + ("NarrowError",)))

    def test_all_are_defined_there(self):
        for name in NAMES + ("NarrowError",):
            self.assertEqual(getattr(errors, name).__module__, "narrowingbits.errors")

    def test_plain_errors_are_made_of_nothing(self):
        for name in PLAIN:
            with self.assertRaises(errors.NarrowError) as caught:
                raise getattr(errors, name)()
            self.assertIs(caught.exception.__class__, getattr(errors, name))

    def test_parameters_are_attributes(self):
        for name, attribute, worth in TELLING:
            made = getattr(errors, name)(worth)
            self.assertEqual(getattr(made, attribute), worth, name)
            made = getattr(errors, name)(**{attribute: worth})
            self.assertEqual(getattr(made, attribute), worth, name)

    def test_they_are_caught_as_value_errors(self):
        for name, _, worth in TELLING:
            with self.assertRaises(ValueError):
                raise getattr(errors, name)(worth)


if __name__ == "__main__":
    unittest.main()
