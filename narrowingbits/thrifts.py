"""Thrift: point [19] of the document."""

from narrowingbits.bounds import samples, widest
from narrowingbits.cutting import keep_layers
from narrowingbits.errors import Outside
from narrowingbits.orders import tiles_of
from narrowingbits.reading import box_of


def least_layers(stream, w):
    """The least number of layers whose box is nowhere wider than w; None if there is none."""
    check_width(w)
    for m in layer_numbers(stream):
        if widest(box_of(keep_layers(stream, m))) <= w:
            return m
    return None


def thrift(stream, w):
    """For each tile the least number of layers that make it nowhere wider than w.

    None if some tile has no such number.
    """
    check_width(w)
    tiles = tiles_of(stream.setting)
    found = {}
    for m in layer_numbers(stream):
        widths = tile_widths(box_of(keep_layers(stream, m)))
        for tile in tiles:
            if tile not in found and widths[tile] <= w:
                found[tile] = m
    return [found[tile] for tile in tiles] if len(found) == len(tiles) else None


def check_width(w):
    """Raise Outside for a width below 0."""
    if w < 0:
        raise Outside()


def layer_numbers(stream):
    """All numbers of layers that may be kept."""
    return list(range(len(stream.setting.layers) + 1))


def tile_widths(box):
    """A dict from each tile (j, i) to the greatest difference of the ends of a sample in it."""
    setting = box.setting
    x0, _, y0, _ = setting.rect
    widths = {}
    for rows in samples(box):
        for y, row in enumerate(rows, start=y0):
            for x, (low, high) in enumerate(row, start=x0):
                tile = (y >> setting.ty, x >> setting.tx)
                widths[tile] = max(widths.get(tile, 0), high - low)
    return widths
