"""Bits with holes: point [29] of the document."""

from narrowingbits.bits import check_bits
from narrowingbits.errors import Over
from narrowingbits.heads import StreamReader, pieces_in
from narrowingbits.reading import BoxReader


def read_holes(bits):
    """The box that the bits around the holes tell; None if one comes before head and index are whole."""
    check_bits([bit for bit in bits if bit is not None])
    hole = bits.index(None) if None in bits else len(bits)
    reader = StreamReader()
    told = reader.read(bits[:hole])
    if reader.lacking is None:
        return None
    behind = bits[hole:]
    if len(behind) > reader.lacking:
        raise Over()
    pieces = pieces_in(told + behind, reader.lengths)
    return BoxReader(reader.setting).box([ahead_of_hole(piece) for piece in pieces])


def ahead_of_hole(piece):
    """The bits of the piece that stand ahead of its first hole."""
    return piece[:piece.index(None)] if None in piece else piece
