"""Joining: point [21] of the document."""

from narrowingbits.errors import BadField, Outside, Unlike
from narrowingbits.moving import fields_of, lines_of_stream
from narrowingbits.settings import Setting, channel_count
from narrowingbits.steps import LETTERS
from narrowingbits.streams import stream_by_line

BUNDLE_MODES = (1, 2)
BUNDLE_SIZE = 3


def join_streams(one, other, axis):
    """The stream of both pictures: the other one stands right of the first for X, below it for Y."""
    if axis not in LETTERS:
        raise BadField("axis")
    fields = fields_of(one.setting)
    other_fields = fields_of(other.setting)
    rect, other_rect = fields["rect"], other_fields["rect"]
    if not _stand_side_by_side(rect, other_rect, axis, fields):
        raise Unlike()
    fields["rect"] = other_fields["rect"] = (rect[0], other_rect[1], rect[2], other_rect[3])
    if fields != other_fields:
        raise Unlike()
    lines = lines_of_stream(one)
    lines.update(lines_of_stream(other))
    return stream_by_line(Setting(**fields), lines)


def channel(stream, c):
    """The stream of the line channel c alone."""
    fields = fields_of(stream.setting)
    if not 0 <= c < channel_count(fields["mode"]):
        raise Outside()
    fields["mode"] = 0
    lines = lines_of_stream(stream)
    kept = {(0, j, i, b): lines[c, j, i, b] for line_channel, j, i, b in lines if line_channel == c}
    return stream_by_line(Setting(**fields), kept)


def bundle(streams, mode):
    """The stream whose line channels the three streams are."""
    if len(streams) != BUNDLE_SIZE:
        raise Outside()
    if mode not in BUNDLE_MODES:
        raise BadField("mode")
    fields = fields_of(streams[0].setting)
    lines = {}
    for c, stream in enumerate(streams):
        if stream.setting.mode != 0 or fields_of(stream.setting) != fields:
            raise Unlike()
        for (_, j, i, b), pieces in lines_of_stream(stream).items():
            lines[c, j, i, b] = pieces
    fields["mode"] = mode
    return stream_by_line(Setting(**fields), lines)


def _stand_side_by_side(rect, other, axis, fields):
    """Whether the other rect begins where the first one ends, and no tile has cells of both."""
    x0, x1, y0, y1 = rect
    if axis == "X":
        return other[0] == x1 and other[2:] == (y0, y1) and x1 % (1 << fields["tx"]) == 0
    return other[2] == y1 and other[:2] == (x0, x1) and y1 % (1 << fields["ty"]) == 0
