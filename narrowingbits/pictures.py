"""Pictures: point [12] of the document."""

from narrowingbits.errors import BadGrid
from narrowingbits.grids import Grid
from narrowingbits.settings import MOST_SIDE


class Picture:
    """A rect with one or three channels of numbers."""

    def __init__(self, rect, channels):
        x0, x1, y0, y1 = rect
        if not (1 <= x1 - x0 <= MOST_SIDE and 1 <= y1 - y0 <= MOST_SIDE):
            raise BadGrid()
        if len(channels) not in (1, 3):
            raise BadGrid()
        self._rect = tuple(rect)
        self._grids = [Grid(rect, rows) for rows in channels]

    # Both are told by properties: a channel's rows because they are lists, which are told anew each
    # time; the rect because grids tell theirs so, and no name is a property here and assigned there.
    @property
    def rect(self):
        """The rect."""
        return self._rect

    @property
    def channels(self):
        """The rows of each channel."""
        return [grid.rows for grid in self._grids]
