"""Moving: point [20] of the document."""

from narrowingbits.errors import Outside
from narrowingbits.orders import tiles_of
from narrowingbits.settings import Setting
from narrowingbits.steps import low_rect
from narrowingbits.streams import pieces_by_line, stream_by_line


def shrink(stream, n):
    """The stream of the low part behind the first n letters of the word."""
    fields = fields_of(stream.setting)
    word = fields["word"]
    if not 0 <= n <= len(word):
        raise Outside()
    fields["word"] = word[n:]
    for letter in word[:n]:
        fields["rect"] = low_rect(fields["rect"], letter)
        tiling = "tx" if letter == "X" else "ty"
        fields[tiling] = fields[tiling] - 1
    return stream_by_line(Setting(**fields), lines_of_stream(stream))


def take(stream, j0, j1, i0, i1):
    """The stream of the tiles (j, i) with j0 <= j < j1 and i0 <= i < i1."""
    fields = fields_of(stream.setting)
    tiles = tiles_of(stream.setting)
    (first_j, first_i), (last_j, last_i) = tiles[0], tiles[-1]
    if not (first_j <= j0 < j1 <= last_j + 1 and first_i <= i0 < i1 <= last_i + 1):
        raise Outside()
    x0, x1, y0, y1 = fields["rect"]
    tx, ty = fields["tx"], fields["ty"]
    fields["rect"] = (max(x0, i0 << tx), min(x1, i1 << tx), max(y0, j0 << ty), min(y1, j1 << ty))
    return stream_by_line(Setting(**fields), lines_of_stream(stream))


def shift(stream, a, b):
    """The stream of the picture that is moved by a tiles along x and b tiles along y."""
    fields = fields_of(stream.setting)
    x0, x1, y0, y1 = fields["rect"]
    by_x, by_y = a << fields["tx"], b << fields["ty"]
    fields["rect"] = (x0 + by_x, x1 + by_x, y0 + by_y, y1 + by_y)
    setting = Setting(**fields)
    lines = lines_of_stream(stream)
    return stream_by_line(setting, {(c, j + b, i + a, band): lines[c, j, i, band] for c, j, i, band in lines})


def reorder(stream, order):
    """The stream with its pieces in another order."""
    fields = fields_of(stream.setting)
    fields["order"] = order
    return stream_by_line(Setting(**fields), lines_of_stream(stream))


def fields_of(setting):
    """A dict of all fields of the setting by their names."""
    return {"rect": setting.rect, "mode": setting.mode, "tx": setting.tx, "ty": setting.ty,
            "word": setting.word, "planes": setting.planes, "layers": setting.layers,
            "order": setting.order}


def lines_of_stream(stream):
    """A dict from each line (c, j, i, b) of the stream to the list of its pieces."""
    return pieces_by_line(stream.setting, stream.pieces)
