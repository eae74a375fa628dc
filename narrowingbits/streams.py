"""Streams: point [14] of the document."""

from narrowingbits.bits import check_bits
from narrowingbits.coefs import coefs_of
from narrowingbits.errors import BadField, BadGrid, Outside
from narrowingbits.lines import code_line, states
from narrowingbits.orders import lines_of, pieces_of

MOST_BITS = 2 ** 20


class Stream:
    """A setting and the bits of its pieces."""

    def __init__(self, setting, pieces):
        for piece in pieces:
            check_bits(piece)
        if len(pieces) != len(pieces_of(setting)):
            raise BadGrid()
        for piece in pieces:
            if len(piece) > MOST_BITS:
                raise BadField("length")
        self.setting = setting
        self._bits = [tuple(piece) for piece in pieces]

    @property
    def pieces(self):
        """The bits of each piece, in piece order."""
        return [list(piece) for piece in self._bits]

    def __iter__(self):
        return iter(self._bits)


def layers_meant(setting, layers):
    """How many layers are meant; None stands for all."""
    most = len(setting.layers)
    if layers is None:
        return most
    if not 0 <= layers <= most:
        raise Outside()
    return layers


def pieces_by_line(setting, pieces):
    """A dict from each line (c, j, i, b) to the list of its pieces, which stand in piece order."""
    found = {}
    # The pieces of a line stand with ascending layers in every order.
    for (c, j, i, b, _), piece in zip(pieces_of(setting), pieces):
        found.setdefault((c, j, i, b), []).append(piece)
    return found


def stream_by_line(setting, lines):
    """The stream of a setting; its pieces are in a dict as of pieces_by_line, perhaps with other lines."""
    return Stream(setting, [lines[c, j, i, b][l] for c, j, i, b, l in pieces_of(setting)])


def code(picture, setting, *, layers=None):
    """The stream of the picture by the setting, without the pieces of layers that are left out."""
    coefs = coefs_of(picture, setting)
    kept = layers_meant(setting, layers)
    lines = {}
    for (c, j, i, b, rect), rows in zip(lines_of(setting), coefs):
        pieces = code_line(rect, setting.planes, setting.layers, rows)
        lines[c, j, i, b] = pieces[:kept] + [[] for _ in pieces[kept:]]
    return stream_by_line(setting, lines)


def stream_states(stream):
    """The states of the pieces, in piece order."""
    setting = stream.setting
    lines = pieces_by_line(setting, stream.pieces)
    found = {}
    for c, j, i, b, rect in lines_of(setting):
        found[c, j, i, b] = states(rect, setting.planes, setting.layers, lines[c, j, i, b])
    return [found[c, j, i, b][l] for c, j, i, b, l in pieces_of(setting)]


def is_right(stream):
    """Whether no piece is too long or other than the least, and all behind short ones are []."""
    return _holds(stream, ("exact", "short"), ("behind",))


def is_whole(stream):
    """Whether all pieces are exact."""
    return _holds(stream, ("exact",), ())


def is_layered(stream):
    """Whether the stream is right and its short pieces are []."""
    return _holds(stream, ("exact",), ("short", "behind"))


def _holds(stream, words, empty_words):
    """Whether each piece has a state of the first words, or is [] and has one of the others."""
    for state, piece in zip(stream_states(stream), stream.pieces):
        if state not in words and not (state in empty_words and len(piece) == 0):
            return False
    return True
