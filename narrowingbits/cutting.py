"""Cutting: point [19] of the document."""

from narrowingbits.errors import Outside
from narrowingbits.heads import payload, pieces_in
from narrowingbits.orders import pieces_of, tiles_of
from narrowingbits.streams import Stream


def cut(stream, n):
    """The stream with the first n bits of its payload."""
    bits = payload(stream)
    if not 0 <= n <= len(bits):
        raise Outside()
    return Stream(stream.setting, pieces_in(bits[:n], [len(piece) for piece in stream]))


def keep_layers(stream, m):
    """The stream with its first m layers."""
    return thin(stream, [m] * len(tiles_of(stream.setting)))


def thin(stream, counts):
    """The stream with so many first layers in each tile."""
    setting = stream.setting
    tiles = tiles_of(setting)
    if len(counts) != len(tiles):
        raise Outside()
    for count in counts:
        if not 0 <= count <= len(setting.layers):
            raise Outside()
    kept = dict(zip(tiles, counts))
    pieces = []
    for (_, j, i, _, l), piece in zip(pieces_of(setting), stream.pieces):
        pieces.append(piece if l < kept[j, i] else [])
    return Stream(setting, pieces)
