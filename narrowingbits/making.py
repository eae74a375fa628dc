"""Making streams anew: point [23] of the document."""

from narrowingbits.errors import Cut
from narrowingbits.moving import fields_of, lines_of_stream
from narrowingbits.orders import tile_rect
from narrowingbits.reading import box_of
from narrowingbits.settings import Setting
from narrowingbits.streams import code, is_whole, stream_by_line


def patch(stream, j, i, picture):
    """The stream with the cells of the tile (j, i) exchanged for those of the picture."""
    setting = stream.setting
    fields = fields_of(setting)
    fields["rect"] = tile_rect(setting, j, i)
    # The only tile of such a setting has the same number, and the lines of that tile.
    tile = code(picture, Setting(**fields))
    lines = lines_of_stream(stream)
    lines.update(lines_of_stream(tile))
    return stream_by_line(setting, lines)


def retile(stream, tx, ty):
    """The stream of the same picture with tiles of another size."""
    return _remade(stream, {"tx": tx, "ty": ty})


def relayer(stream, planes, layers):
    """The stream of the same picture with other planes and layers."""
    return _remade(stream, {"planes": planes, "layers": layers})


def _remade(stream, other_fields):
    """The stream of the same picture by a setting with some other fields."""
    if not is_whole(stream):
        raise Cut()
    fields = fields_of(stream.setting)
    fields.update(other_fields)
    setting = Setting(**fields)
    return code(box_of(stream).nearest(), setting)
