"""Colours: the end of point [7] of the document."""

from narrowingbits.errors import BadGrid
from narrowingbits.pairs import back, pair


def coloured(channels):
    """The rows of Y, U and V, from those of r, g and b."""
    _check_form(channels)
    return _cell_by_cell(channels, _coloured_cell)


def uncoloured(channels):
    """The rows of r, g and b, from those of Y, U and V."""
    _check_form(channels)
    return _cell_by_cell(channels, _uncoloured_cell)


def _coloured_cell(r, g, b):
    t, v = pair(r, b)
    y, u = pair(g, t)
    return (y, u, v)


def _uncoloured_cell(y, u, v):
    g, t = back(y, u)
    r, b = back(t, v)
    return (r, g, b)


def _check_form(channels):
    if len(channels) != 3:
        raise BadGrid()
    forms = [[len(row) for row in rows] for rows in channels]
    if forms[0] != forms[1] or forms[0] != forms[2]:
        raise BadGrid()


def _cell_by_cell(channels, change):
    told = [[], [], []]
    for ones, twos, threes in zip(channels[0], channels[1], channels[2]):
        cells = [change(a, b, c) for a, b, c in zip(ones, twos, threes)]
        for number in range(3):
            told[number].append([cell[number] for cell in cells])
    return told
