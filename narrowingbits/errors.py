"""The errors of the package. Each one stands directly under NarrowError."""


class NarrowError(ValueError):
    """What all errors of this package stand under."""


class BadBits(NarrowError):
    """A thing among bits is no bit, or bits are lacking."""


class Great(NarrowError):
    """A number is too great, or too small, for its code."""


class BadField(NarrowError):
    """The field of that name is wrong."""

    def __init__(self, name):
        self.name = name


class TooMany(NarrowError):
    """There is more of something than the most that may be."""

    def __init__(self, most):
        self.most = most


class TooFew(NarrowError):
    """A number does not fit so few planes."""

    def __init__(self, planes):
        self.planes = planes


class BadGrid(NarrowError):
    """A rect, its rows or their number have a wrong form."""


class Unlike(NarrowError):
    """Two things do not fit each other."""


class Outside(NarrowError):
    """A number lies outside its range."""


class Cut(NarrowError):
    """A stream does not tell as much as is needed."""


class Coloured(NarrowError):
    """A question is not answered in mode 2."""


class Over(NarrowError):
    """There is a bit too many."""


class BadCells(NarrowError):
    """Protected bits have a wrong form."""


class BadText(NarrowError):
    """The row of that number is not written as it must be."""

    def __init__(self, row):
        self.row = row


class NoFrame(NarrowError):
    """A film has no frame of that number."""

    def __init__(self, number):
        self.number = number


class Last(NarrowError):
    """The only frame of a film cannot be left out."""


class NoStream(NarrowError):
    """A studio has no stream of that name."""

    def __init__(self, name):
        self.name = name


class NothingToUndo(NarrowError):
    """There is no row to be undone or redone."""


class BadDeed(NarrowError):
    """A row or a paper is none that is known."""
