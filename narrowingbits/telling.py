"""Letters that bits tell: point [6] of the document."""

from narrowingbits.bits import check_bits
from narrowingbits.ranges import ROOT, borders, doublings_of


class Window:
    """The interval of some bits, seen from the node that holds it.

    Numbers are in units of the node. Bits finer than the unit do not matter to the question which
    child holds the interval, so they are not looked at until doublings have made the unit as fine.
    Thus no number grows with the bits.
    """

    def __init__(self, bits):
        self._bits = bits
        self._place = 0
        self._offset = 0
        self._size = 1
        self._width = 1
        self._double(ROOT[2])

    def letter(self, counts):
        """Go to the child that holds the interval and return its letter, or None if none does."""
        edges = borders(self._width, counts)
        for j in range(len(counts)):
            if edges[j] <= self._offset and self._offset + self._size <= edges[j + 1]:
                self._offset = self._offset - edges[j]
                self._width = edges[j + 1] - edges[j]
                self._double(doublings_of(self._width))
                return j
        return None

    def _double(self, times):
        for _ in range(times):
            self._width = 2 * self._width
            self._offset = 2 * self._offset
            if self._place < len(self._bits):
                self._offset = self._offset + self._bits[self._place]
                self._place += 1
            else:
                self._size = 2 * self._size


def told_letters(bits, model):
    """The letters that the bits tell; the model takes them."""
    check_bits(bits)
    window = Window(bits)
    letters = []
    while model.wanted() is not None:
        letter = window.letter(model.wanted_counts())
        if letter is None:
            break
        model.take(letter)
        letters.append(letter)
    return letters
