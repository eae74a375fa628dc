"""Ends of samples: point [16] of the document."""

from narrowingbits.coefs import COLOURED_MODE, flat_of, places_of
from narrowingbits.errors import Outside
from narrowingbits.orders import tile_rect
from narrowingbits.settings import channel_count
from narrowingbits.steps import low_rect

# How a number comes into a sum: as it is, or as the d of a pair into its first or its second.
PLAIN = 0
FIRST = 1
SECOND = 2


def sample(box, c, x, y):
    """The ends of the sample at a cell of a channel."""
    check_channel(box.setting, c)
    check_cell(box.setting, x, y)
    return _sample_ends(box.setting.mode, c, _channel_ends(tables_of(box), way_of(box.setting, x, y)))


def samples(box):
    """For each channel the rows of the ends of its samples."""
    setting = box.setting
    tables = tables_of(box)
    x0, x1, y0, y1 = setting.rect
    told = [[] for _ in tables]
    for y in range(y0, y1):
        row = [_channel_ends(tables, way_of(setting, x, y)) for x in range(x0, x1)]
        for c in range(len(tables)):
            told[c].append([_sample_ends(setting.mode, c, ends) for ends in row])
    return told


def widest(box):
    """The greatest difference of the ends of a sample."""
    return max([high - low for low, high in flat_of(samples(box))])


def check_channel(setting, c):
    """Raise Outside if pictures of the setting have no such channel."""
    if not 0 <= c < channel_count(setting.mode):
        raise Outside()


def check_cell(setting, x, y):
    """Raise Outside if pictures of the setting have no such cell."""
    x0, x1, y0, y1 = setting.rect
    if not (x0 <= x < x1 and y0 <= y < y1):
        raise Outside()


def tables_of(box):
    """For each line channel a dict from the places (j, i, b, x, y) of its coefs to their stretches."""
    tables = [{} for _ in range(channel_count(box.setting.mode))]
    for (c, j, i, b, x, y), stretch in zip(places_of(box.setting), flat_of(box.stretches())):
        tables[c][j, i, b, x, y] = stretch
    return tables


def channel_parts(mode, c):
    """The line channels whose numbers come into a channel's samples, and how."""
    if mode != COLOURED_MODE:
        return [(c, PLAIN)]
    red = [(0, PLAIN), (1, SECOND), (2, FIRST)]
    green = [(0, PLAIN), (1, FIRST)]
    blue = [(0, PLAIN), (1, SECOND), (2, SECOND)]
    return [red, green, blue][c]


def way_of(setting, x, y):
    """The coefs on the way of a cell within a line channel, from the picture on to band 0.

    Each one is told by its place (j, i, b, x, y) and by how it comes into the sample.
    """
    j, i = y >> setting.ty, x >> setting.tx
    rect = tile_rect(setting, j, i)
    band = len(setting.word)
    way = []
    for letter in setting.word:
        at, start, stop = (x, rect[0], rect[1]) if letter == "X" else (y, rect[2], rect[3])
        x, y = (x // 2, y) if letter == "X" else (x, y // 2)
        # The other cell of its pair differs in the lowest digit; a cell is alone without it.
        if start <= at ^ 1 < stop:
            way.append(((j, i, band, x, y), FIRST if at % 2 == 0 else SECOND))
        rect = low_rect(rect, letter)
        band -= 1
    way.append(((j, i, 0, x, y), PLAIN))
    return way


def part_ends(part, stretch):
    """The least and the greatest of what comes into a sum of the numbers of a stretch."""
    low, high = stretch
    if part == FIRST:
        return ((low + 1) // 2, (high + 1) // 2)
    if part == SECOND:
        return (-(high // 2), -(low // 2))
    return stretch


def summed(stretches):
    """The least and the greatest sum of numbers, one of each stretch."""
    return (sum([low for low, _ in stretches]), sum([high for _, high in stretches]))


def way_ends(table, way):
    """The ends of the number of a line channel in the cell of the way."""
    return summed([part_ends(part, table[place]) for place, part in way])


def _channel_ends(tables, way):
    return [way_ends(table, way) for table in tables]


def _sample_ends(mode, c, ends):
    """The ends of a sample, of those of its cell in each line channel."""
    return summed([part_ends(part, ends[channel]) for channel, part in channel_parts(mode, c)])
