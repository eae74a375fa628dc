"""Rects, rows and grids: point [1] of the document."""

from narrowingbits.bits import is_number
from narrowingbits.errors import BadGrid, Outside


def check_rect(rect):
    """Raise BadGrid if the rect is turned about."""
    x0, x1, y0, y1 = rect
    if x0 > x1 or y0 > y1:
        raise BadGrid()


def has_cells(rect):
    """Whether the rect has a cell."""
    x0, x1, y0, y1 = rect
    return x0 < x1 and y0 < y1


def cells_of(rect):
    """The cells (x, y) of the rect, row by row."""
    x0, x1, y0, y1 = rect
    return [(x, y) for y in range(y0, y1) for x in range(x0, x1)]


def is_row(thing, width):
    """Whether the thing is a row of so many numbers."""
    if not isinstance(thing, (list, tuple)) or len(thing) != width:
        return False
    for number in thing:
        if not is_number(number):
            return False
    return True


def rows_fit(rows, rect):
    """Whether the rows fit the rect, which is not turned about."""
    x0, x1, y0, y1 = rect
    height = y1 - y0 if has_cells(rect) else 0
    if not isinstance(rows, (list, tuple)) or len(rows) != height:
        return False
    for row in rows:
        if not is_row(row, x1 - x0):
            return False
    return True


class Grid:
    """A rect with a number in each cell."""

    def __init__(self, rect, rows):
        check_rect(rect)
        if not rows_fit(rows, rect):
            raise BadGrid()
        self._rect = tuple(rect)
        self._rows = [list(row) for row in rows]

    @property
    def rect(self):
        """The rect."""
        return self._rect

    @property
    def rows(self):
        """The rows."""
        return [list(row) for row in self._rows]

    def at(self, x, y):
        """The number of a cell."""
        x0, x1, y0, y1 = self._rect
        if not (x0 <= x < x1 and y0 <= y < y1):
            raise Outside()
        return self._rows[y - y0][x - x0]
