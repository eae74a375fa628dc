"""Orders, tiles, lines and pieces: points [10] and [11] of the document."""

from narrowingbits.errors import Outside
from narrowingbits.settings import channel_count, tile_span
from narrowingbits.steps import band_rects

ORDERS = ("BCLT", "BCTL", "BLCT", "BLTC", "BTCL", "BTLC",
          "CBLT", "CBTL", "CLBT", "CLTB", "CTBL", "CTLB",
          "LBCT", "LBTC", "LCBT", "LCTB", "LTBC", "LTCB",
          "TBCL", "TBLC", "TCBL", "TCLB", "TLBC", "TLCB")


def tiles_of(setting):
    """The tiles (j, i) of the setting, ascending."""
    x0, x1, y0, y1 = setting.rect
    first_i, behind_i = tile_span(x0, x1, setting.tx)
    first_j, behind_j = tile_span(y0, y1, setting.ty)
    return [(j, i) for j in range(first_j, behind_j) for i in range(first_i, behind_i)]


def tile_rect(setting, j, i):
    """The rect of the tile (j, i)."""
    x0, x1, y0, y1 = setting.rect
    left = max(x0, i << setting.tx)
    right = min(x1, (i + 1) << setting.tx)
    top = max(y0, j << setting.ty)
    bottom = min(y1, (j + 1) << setting.ty)
    if left >= right or top >= bottom:
        raise Outside()
    return (left, right, top, bottom)


def lines_of(setting):
    """The lines (c, j, i, b, rect) of the setting, in line order."""
    for c in range(channel_count(setting.mode)):
        for j, i in tiles_of(setting):
            rects = band_rects(tile_rect(setting, j, i), setting.word)
            for b, rect in enumerate(rects):
                yield (c, j, i, b, rect)


def pieces_of(setting):
    """The pieces (c, j, i, b, l) of the setting, in piece order."""
    layers = len(setting.layers)
    pieces = [(c, j, i, b, l) for c, j, i, b, _ in lines_of(setting) for l in range(layers)]
    return sorted(pieces, key=lambda piece: _place_of(piece, setting.order))


def _place_of(piece, order):
    """What tells the place of the piece among all others in that order."""
    c, j, i, b, l = piece
    keys = {"B": b, "C": c, "L": l, "T": (j, i)}
    return [keys[letter] for letter in order]
