"""Deeds on pictures: point [24] of the document."""

from narrowingbits.coefs import COLOURED_MODE, fits
from narrowingbits.colours import coloured, uncoloured
from narrowingbits.errors import Outside, Unlike
from narrowingbits.grids import Grid
from narrowingbits.moving import take
from narrowingbits.orders import pieces_of
from narrowingbits.pictures import Picture
from narrowingbits.steps import halved
from narrowingbits.streams import Stream


def shrunk(picture, setting, n):
    """The picture that shrink makes of a picture of the setting."""
    check_fit(picture, setting)
    if not 0 <= n <= len(setting.word):
        raise Outside()
    is_coloured = setting.mode == COLOURED_MODE
    channels = coloured(picture.channels) if is_coloured else picture.channels
    # No tile parts a pair, so that the picture is halved as a whole.
    grids = [Grid(picture.rect, rows) for rows in channels]
    for letter in setting.word[:n]:
        grids = [low_part(grid, letter) for grid in grids]
    lows = [grid.rows for grid in grids]
    return Picture(grids[0].rect, uncoloured(lows) if is_coloured else lows)


def mirrored(picture):
    """The picture whose cells (x, y) are moved to (-1 - x, y)."""
    x0, x1, y0, y1 = picture.rect
    return Picture((-x1, -x0, y0, y1), [[row[::-1] for row in rows] for rows in picture.channels])


def swapped(picture):
    """The picture whose cells (x, y) are moved to (y, x)."""
    x0, x1, y0, y1 = picture.rect
    channels = [[list(column) for column in zip(*rows)] for rows in picture.channels]
    return Picture((y0, y1, x0, x1), channels)


def taken(picture, setting, j0, j1, i0, i1):
    """The picture that take makes of a picture of the setting."""
    check_fit(picture, setting)
    # What take makes of a stream that tells nothing has the rect that it makes of any.
    nothing = Stream(setting, [[] for _ in pieces_of(setting)])
    rect = take(nothing, j0, j1, i0, i1).setting.rect
    x0, _, y0, _ = setting.rect
    left, right, top, bottom = rect[0] - x0, rect[1] - x0, rect[2] - y0, rect[3] - y0
    return Picture(rect, [[row[left:right] for row in rows[top:bottom]] for rows in picture.channels])


def check_fit(picture, setting):
    """Raise Unlike unless the picture fits the setting."""
    if not fits(picture, setting):
        raise Unlike()


def low_part(grid, letter):
    """The low part of the grid."""
    low, _ = halved(grid, letter)
    return low
