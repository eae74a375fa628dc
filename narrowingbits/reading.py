"""Boxes that bits tell, and which bits are needed: points [9], [13] and [14] of the document."""

from narrowingbits.bits import check_bits
from narrowingbits.bounds import widest
from narrowingbits.boxes import Box
from narrowingbits.errors import Outside
from narrowingbits.heads import StreamReader, front_bits, payload, pieces_in
from narrowingbits.lines import read_line
from narrowingbits.orders import lines_of, pieces_of, tile_rect, tiles_of
from narrowingbits.streams import layers_meant, pieces_by_line


class BoxReader:
    """Reads boxes of streams of one setting; a line with the same pieces as before is not read again."""

    def __init__(self, setting):
        self._setting = setting
        # For each line its pieces and its rows, as they were read last.
        self._told = {}

    def box(self, pieces):
        """The box of the stream of these pieces, which stand in piece order."""
        setting = self._setting
        lines = pieces_by_line(setting, pieces)
        for c, j, i, b, rect in list(lines_of(setting)):
            line = (c, j, i, b)
            if line not in self._told or self._told[line][0] != lines[line]:
                model = read_line(rect, setting.planes, setting.layers, lines[line])
                self._told[line] = (lines[line], model.stretches())
        return Box(setting, [self._told[c, j, i, b][1] for c, j, i, b, _ in lines_of(setting)])


def box_of(stream):
    """The box of the stream."""
    return BoxReader(stream.setting).box(stream.pieces)


def told_box(bits):
    """The box of the prefix of a stream's bits; None while head and index are not whole."""
    check_bits(bits)
    reader = StreamReader()
    told = reader.read(bits)
    if reader.lacking is None:
        return None
    return BoxReader(reader.setting).box(pieces_in(told, reader.lengths))


def needed(stream, rect, *, drop=0, layers=None):
    """The places (begin, end) of the bits that tell of the rect, without some bands and layers."""
    setting = stream.setting
    greatest_drop = len(setting.word)
    if not share_cells(rect, setting.rect) or not 0 <= drop <= greatest_drop:
        raise Outside()
    kept = layers_meant(setting, layers)
    tiles = [(j, i) for j, i in tiles_of(setting) if share_cells(rect, tile_rect(setting, j, i))]
    end = len(front_bits(stream))
    found = [(0, end)]
    for (_, j, i, b, l), piece in zip(pieces_of(setting), stream):
        begin, end = end, end + len(piece)
        if begin < end and (j, i) in tiles and b <= greatest_drop - drop and l < kept:
            found.append((begin, end))
    return found


def share_cells(rect, other):
    """Whether the rects have a cell in common."""
    return (max(rect[0], other[0]) < min(rect[1], other[1])
            and max(rect[2], other[2]) < min(rect[3], other[3]))


def least_bits(stream, w):
    """The least number of payload bits whose box is nowhere wider than w; None if there is none."""
    if w < 0:
        raise Outside()
    boxes = BoxReader(stream.setting)
    lengths = [len(piece) for piece in stream]
    bits = payload(stream)
    if widest(boxes.box(stream.pieces)) > w:
        return None
    # More bits never make a box wider, so that halving finds the place.
    least, enough = 0, len(bits)
    while least < enough:
        middle = (least + enough) // 2
        if widest(boxes.box(pieces_in(bits[:middle], lengths))) <= w:
            enough = middle
        else:
            least = middle + 1
    return least


def spent(stream):
    """A dict from each (layer, band) to the number of bits of its pieces."""
    setting = stream.setting
    sums = {(l, b): 0 for l in range(len(setting.layers)) for b in range(len(setting.word) + 1)}
    for (_, _, _, b, l), piece in zip(pieces_of(setting), stream):
        sums[l, b] += len(piece)
    return sums
