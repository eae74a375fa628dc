"""Reading in any cuts: point [17.1] of the document."""

from narrowingbits.bits import check_bits
from narrowingbits.coefs import flat_of
from narrowingbits.heads import StreamReader, pieces_in
from narrowingbits.reading import BoxReader

HEAD = "head"
PIECES = "pieces"
ALL = "all"


class Live:
    """Is fed the bits of a stream and tells at each time what they tell."""

    def __init__(self):
        self.seen = 0
        self.state = HEAD
        self._reader = StreamReader()
        self._boxes = None
        self._payload = []

    def feed(self, bits):
        """Take more bits."""
        check_bits(bits)
        # What raises must leave everything as it was.
        reader = self._reader.copied()
        told = reader.read(bits)
        self._reader = reader
        self._payload.extend(told)
        self.seen += len(bits)
        if reader.lacking is not None:
            self.state = PIECES if reader.lacking > 0 else ALL

    def box(self):
        """The box of all bits so far; None while head and index are not whole."""
        if self.state == HEAD:
            return None
        if self._boxes is None:
            self._boxes = BoxReader(self._reader.setting)
        return self._boxes.box(pieces_in(self._payload, self._reader.lengths))

    def letters(self):
        """How many letters are told in all lines."""
        box = self.box()
        if box is None:
            return 0
        planes = box.setting.planes
        return sum([planes - planes_open(stretch) for stretch in flat_of(box.stretches())])


def planes_open(stretch):
    """How many planes of a coef are not told, each of which has one letter for it."""
    low, high = stretch
    # Of a coef that is still zero both signs are open, too, unless no plane is.
    return high.bit_length() if low <= 0 <= high else (high - low).bit_length()
