"""What deeds do to pictures, settings and boxes, by the words of points [19] to [24], for tests."""

import random

from narrowingbits.colours import coloured, uncoloured
from narrowingbits.cutting import cut
from narrowingbits.grids import Grid
from narrowingbits.orders import ORDERS, lines_of, pieces_of
from narrowingbits.pictures import Picture
from narrowingbits.reading import box_of
from narrowingbits.steps import halved
from narrowingbits.streams import Stream, code, stream_states

from picture_reference import changed, coded_picture, piece_table, some_settings, spoilt

MOTIONS = {"M": lambda x, y: (-1 - x, y), "S": lambda x, y: (y, x)}


def settings_in_many_orders(step=6):
    for number, setting in enumerate(some_settings()):
        for order in ORDERS[number % 4::step]:
            yield changed(setting, order=order)


def bit_count(stream):
    return sum(len(piece) for piece in stream)


def broken_streams(setting, number):
    """Streams that are cut and spoilt ones."""
    stream = code(coded_picture(setting, number), setting)
    many = bit_count(stream)
    return [cut(stream, many // 3), cut(stream, many * 2 // 3), spoilt(stream, number), spoilt(stream, number + 9)]


def low_picture(picture, mode, letters):
    """The low part of each line channel, letter by letter."""
    rect = picture.rect
    channels = coloured(picture.channels) if mode == 2 else picture.channels
    for letter in letters:
        lows = [halved(Grid(rect, rows), letter)[0] for rows in channels]
        rect, channels = lows[0].rect, [low.rows for low in lows]
    return Picture(rect, uncoloured(channels) if mode == 2 else channels)


def low_setting(setting, n):
    x0, x1, y0, y1 = setting.rect
    tx, ty = setting.tx, setting.ty
    for letter in setting.word[:n]:
        if letter == "X":
            x0, x1, tx = x0 // 2, (x1 + 1) // 2, tx - 1
        else:
            y0, y1, ty = y0 // 2, (y1 + 1) // 2, ty - 1
    return changed(setting, rect=(x0, x1, y0, y1), tx=tx, ty=ty, word=setting.word[n:])


def part_of(picture, rect):
    x0, _, y0, _ = picture.rect
    return Picture(rect, [[row[rect[0] - x0:rect[1] - x0] for row in rows[rect[2] - y0:rect[3] - y0]]
                          for rows in picture.channels])


def cells_table(picture):
    """A dict from (c, x, y) to the number there."""
    x0, _, y0, _ = picture.rect
    return {(c, x, y): number for c, rows in enumerate(picture.channels) for y, row in enumerate(rows, start=y0)
            for x, number in enumerate(row, start=x0)}


def picture_of_cells(table):
    """The picture with these numbers in its cells."""
    xs = [x for _, x, _ in table]
    ys = [y for _, _, y in table]
    rect = (min(xs), max(xs) + 1, min(ys), max(ys) + 1)
    return Picture(rect, [[[table[c, x, y] for x in range(rect[0], rect[1])] for y in range(rect[2], rect[3])]
                          for c in range(max(c for c, _, _ in table) + 1)])


def turned_picture(picture, word):
    """The picture with its cells moved for each letter of the word, in order."""
    table = cells_table(picture)
    for letter in word:
        table = {(c,) + MOTIONS[letter](x, y): number for (c, x, y), number in table.items()}
    return picture_of_cells(table)


def turned_setting(setting, word):
    for letter in word:
        x0, x1, y0, y1 = setting.rect
        if letter == "M":
            setting = changed(setting, rect=(-x1, -x0, y0, y1))
        else:
            other = "".join({"X": "Y", "Y": "X"}[step] for step in setting.word)
            setting = changed(setting, rect=(y0, y1, x0, x1), tx=setting.ty, ty=setting.tx, word=other)
    return setting


def lighter(picture, c):
    """The picture with c added to all samples."""
    return Picture(picture.rect, [[[number + c for number in row] for row in rows] for rows in picture.channels])


def exchanged(picture, part):
    """The picture with its cells exchanged for those of another one that lies within it."""
    return picture_of_cells({**cells_table(picture), **cells_table(part)})


def rows_by_line(stream):
    """A dict from (c, j, i, b) to the rows of stretches that the stream tells."""
    return {line[:4]: rows for line, rows in zip(lines_of(stream.setting), box_of(stream).stretches())}


def turned_rows(setting, rows, letter):
    """The rows of stretches by lines, moved by one letter; the setting is that ahead of it."""
    found = {}
    for (c, j, i, b), stretches in rows.items():
        if letter == "S":
            found[c, i, j, b] = [list(column) for column in zip(*stretches)]
        elif b > 0 and setting.word[::-1][b - 1] == "X":
            found[c, j, -1 - i, b] = [[(-high, -low) for low, high in reversed(row)] for row in stretches]
        else:
            found[c, j, -1 - i, b] = [list(reversed(row)) for row in stretches]
    return found


def told_layers(stream):
    """For each line (c, j, i, b) to how many layers it is told."""
    found = {}
    states = {}
    for (c, j, i, b, _), state in zip(pieces_of(stream.setting), stream_states(stream)):
        states.setdefault((c, j, i, b), []).append(state)
    for line, words in states.items():
        found[line] = (words + ["short"]).index("short")
    return found


def layered_stream(setting, seed):
    """A layered stream, each of whose lines keeps another number of layers."""
    source = random.Random(seed)
    stream = code(coded_picture(setting, seed), setting)
    kept = {}
    pieces = []
    for (c, j, i, b, l), piece in piece_table(stream).items():
        many = kept.setdefault((c, j, i, b), source.randint(0, len(setting.layers)))
        pieces.append(piece if l < many else [])
    return Stream(setting, pieces)
