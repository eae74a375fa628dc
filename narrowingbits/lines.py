"""Layers and pieces of a line: point [9] of the document."""

from narrowingbits.bits import check_bits
from narrowingbits.errors import BadGrid, Outside, TooFew
from narrowingbits.grids import Grid
from narrowingbits.models import PASSES, LineModel
from narrowingbits.ranges import Ranger
from narrowingbits.telling import told_letters

MOST_LAYERS = 6


class Layer:
    """The model of the letters of a line's next layer; it knows the piece of the taken ones."""

    def __init__(self, line, stop):
        self._line = line
        self._stop = stop
        self._ranger = Ranger()

    def wanted(self):
        """As of the line, but None at the layer's end."""
        if self._line.pass_number >= self._stop:
            return None
        return self._line.wanted()

    def wanted_counts(self):
        """The counts of the table of the wanted letter."""
        return self._line.wanted_counts()

    def take(self, letter):
        """Take the wanted letter."""
        self._ranger.take(self._line.wanted_counts(), letter)
        self._line.take(letter)

    def piece(self):
        """The piece of the letters that were taken."""
        return self._ranger.end()


def layers_are_right(layers, planes):
    """Whether these are layers for so many planes."""
    if not 1 <= len(layers) <= MOST_LAYERS:
        return False
    return min(layers) >= 1 and sum(layers) == PASSES * planes


def code_line(rect, planes, layers, rows):
    """The pieces of the line of these rows, one per layer."""
    line = _new_line(rect, planes, layers)
    grid = Grid(rect, rows)
    for row in grid.rows:
        for number in row:
            if abs(number) >> planes > 0:
                raise TooFew(planes)
    pieces = []
    for stop in _stops(layers):
        layer = Layer(line, stop)
        wanted = layer.wanted()
        while wanted is not None:
            _, size, (x, y) = wanted
            plane = planes - 1 - line.pass_number // PASSES
            layer.take(_letter(grid.at(x, y), size, plane))
            wanted = layer.wanted()
        pieces.append(layer.piece())
    return pieces


def read_line(rect, planes, layers, pieces):
    """The model of the line behind all letters that the pieces tell."""
    line, _ = _read(rect, planes, layers, pieces)
    return line


def states(rect, planes, layers, pieces):
    """The states of the pieces."""
    _, found = _read(rect, planes, layers, pieces)
    return found


def _new_line(rect, planes, layers):
    line = LineModel(rect, planes)
    if not layers_are_right(layers, planes):
        raise Outside()
    return line


def _stops(layers):
    """For each layer the number of the first pass behind it."""
    return [sum(layers[:number + 1]) for number in range(len(layers))]


def _letter(number, size, plane):
    """The letter of a number in a plane, of a table with so many letters."""
    if size == 2:
        return (abs(number) >> plane) & 1
    if abs(number) >> plane == 0:
        return 0
    return 1 if number > 0 else 2


def _read(rect, planes, layers, pieces):
    """The model of the line behind all told letters, and the states of the pieces."""
    line = _new_line(rect, planes, layers)
    for piece in pieces:
        check_bits(piece)
    if len(pieces) != len(layers):
        raise BadGrid()
    found = []
    for piece, stop in zip(pieces, _stops(layers)):
        if "short" in found:
            found.append("behind")
        else:
            layer = Layer(line, stop)
            told_letters(piece, layer)
            found.append(_state(piece, layer))
    return (line, found)


def _state(piece, layer):
    if layer.wanted() is not None:
        return "short"
    return "exact" if list(piece) == layer.piece() else "over"
