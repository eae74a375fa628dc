"""Settings: point [10] of the document."""

from narrowingbits.errors import BadField, TooMany
from narrowingbits.lines import layers_are_right
from narrowingbits.models import MOST_PLANES

FARTHEST_RIM = 2 ** 30
MOST_SIDE = 32
MOST_MODE = 2
MOST_TILING = 5
MOST_PIECES = 2000
KEYS = ["B", "C", "L", "T"]


def rim_is_right(rim):
    """Whether a rim of a picture is near enough to 0."""
    return abs(rim) <= FARTHEST_RIM


def side_is_right(start, stop):
    """Whether a picture's side has its length and its second rim within the limits."""
    return 1 <= stop - start <= MOST_SIDE and rim_is_right(stop)


def word_is_right(word, tx, ty):
    """Whether the word has no other letters, and no more of them, than such tiles let."""
    halvings_x = word.count("X")
    halvings_y = word.count("Y")
    return halvings_x + halvings_y == len(word) and halvings_x <= tx and halvings_y <= ty


def order_is_right(order):
    """Whether the order is one of the 24."""
    return isinstance(order, str) and sorted(order) == KEYS


def channel_count(mode):
    """How many channels a picture of the mode has."""
    return 1 if mode == 0 else 3


def tile_span(start, stop, tiling):
    """The first number of the tiles along a side, and the one behind the last."""
    return (start >> tiling, ((stop - 1) >> tiling) + 1)


def check_fields(rect, mode, tx, ty, word, planes, layers, order):
    """Raise BadField for the first field that is wrong."""
    x0, x1, y0, y1 = rect
    if not rim_is_right(x0):
        raise BadField("x0")
    if not side_is_right(x0, x1):
        raise BadField("width")
    if not rim_is_right(y0):
        raise BadField("y0")
    if not side_is_right(y0, y1):
        raise BadField("height")
    if not 0 <= mode <= MOST_MODE:
        raise BadField("mode")
    if not 0 <= tx <= MOST_TILING:
        raise BadField("tx")
    if not 0 <= ty <= MOST_TILING:
        raise BadField("ty")
    if not word_is_right(word, tx, ty):
        raise BadField("word")
    if not 1 <= planes <= MOST_PLANES:
        raise BadField("planes")
    if not layers_are_right(layers, planes):
        raise BadField("layers")
    if not order_is_right(order):
        raise BadField("order")


class Setting:
    """How a picture is written."""

    def __init__(self, rect, mode, tx, ty, word, planes, layers, order):
        check_fields(rect, mode, tx, ty, word, planes, layers, order)
        self._rect = tuple(rect)
        self.mode = mode
        self.tx = tx
        self.ty = ty
        self.word = word
        self.planes = planes
        self.layers = tuple(layers)
        self.order = order
        if self._piece_count() > MOST_PIECES:
            raise TooMany(MOST_PIECES)

    # Grids tell their rect by a property, and no name is a property here and assigned there.
    @property
    def rect(self):
        """The rect of the picture."""
        return self._rect

    def _piece_count(self):
        x0, x1, y0, y1 = self._rect
        first_x, behind_x = tile_span(x0, x1, self.tx)
        first_y, behind_y = tile_span(y0, y1, self.ty)
        tiles = (behind_x - first_x) * (behind_y - first_y)
        return channel_count(self.mode) * tiles * (len(self.word) + 1) * len(self.layers)
