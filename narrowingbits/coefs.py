"""Coefs and their places: points [11] and [12] of the document."""

from narrowingbits.colours import uncoloured
from narrowingbits.errors import BadGrid, Unlike
from narrowingbits.grids import Grid, cells_of
from narrowingbits.orders import lines_of, tile_rect, tiles_of
from narrowingbits.pairs import pair
from narrowingbits.pictures import Picture
from narrowingbits.settings import channel_count
from narrowingbits.steps import bands, unbands

COLOURED_MODE = 2


def fits(picture, setting):
    """Whether the picture fits the setting."""
    return picture.rect == setting.rect and len(picture.channels) == channel_count(setting.mode)


def coefs_of(picture, setting):
    """The rows of coefs of each line, in line order."""
    if not fits(picture, setting):
        raise Unlike()
    coefs = []
    for rows in _line_channels(picture.channels, setting.mode):
        for j, i in tiles_of(setting):
            tile = _part(rows, setting.rect, tile_rect(setting, j, i))
            coefs.extend([part.rows for part in bands(tile, setting.word)])
    return coefs


def picture_of(rows, setting):
    """The picture whose coefs these rows are."""
    lines = list(lines_of(setting))
    if len(rows) != len(lines):
        raise BadGrid()
    tiles = {}
    for (c, j, i, _, rect), numbers in zip(lines, rows):
        tiles.setdefault((c, j, i), []).append(Grid(rect, numbers))
    channels = [_joined_tiles(tiles, c, setting) for c in range(channel_count(setting.mode))]
    if setting.mode == COLOURED_MODE:
        channels = uncoloured(channels)
    return Picture(setting.rect, channels)


def places_of(setting):
    """The places (c, j, i, b, x, y) of all coefs, line by line and row by row."""
    return [(c, j, i, b, x, y) for c, j, i, b, rect in lines_of(setting) for x, y in cells_of(rect)]


def flat_of(rows):
    """All things of the rows of lines in one list, in the order of their places."""
    return [thing for line in rows for row in line for thing in row]


def rows_of(setting, things):
    """The rows of each line, in line order; the things stand in one list in the order of places."""
    found = []
    start = 0
    for _, _, _, _, rect in lines_of(setting):
        stop = start + len(cells_of(rect))
        width = rect[1] - rect[0]
        # A rect without cells may have no width; it has no rows then either.
        found.append([things[at:at + width] for at in range(start, stop, max(1, width))])
        start = stop
    return found


def _line_channels(channels, mode):
    """The rows of the line channels of a picture with these channels."""
    if mode != COLOURED_MODE:
        return channels
    # Not by coloured, which calls a function that it is passed: boxes ask for coefs in what `in`
    # runs, and that may call no such thing.
    red, green, blue = channels
    t, v = _paired(red, blue)
    y, u = _paired(green, t)
    return [y, u, v]


def _paired(firsts, seconds):
    """The rows of s and the rows of d, of the pairs of two channels cell by cell."""
    pairs = [[pair(a, b) for a, b in zip(first, second)] for first, second in zip(firsts, seconds)]
    return ([[s for s, _ in row] for row in pairs], [[d for _, d in row] for row in pairs])


def _part(rows, whole, rect):
    """The grid of a rect that lies in the whole one, whose rows these are."""
    left, right = rect[0] - whole[0], rect[1] - whole[0]
    top, bottom = rect[2] - whole[2], rect[3] - whole[2]
    return Grid(rect, [row[left:right] for row in rows[top:bottom]])


def _joined_tiles(tiles, c, setting):
    """The rows of a line channel, from the bands of its tiles."""
    x0, x1, y0, y1 = setting.rect
    rows = [[0] * (x1 - x0) for _ in range(y0, y1)]
    for j, i in tiles_of(setting):
        rect = tile_rect(setting, j, i)
        tile = unbands(tiles[c, j, i], rect, setting.word)
        for y, numbers in enumerate(tile.rows, start=rect[2] - y0):
            rows[y][rect[0] - x0:rect[1] - x0] = numbers
    return rows
