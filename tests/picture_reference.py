"""Settings, pictures, boxes and streams for tests, and the words of points [7], [11] and [17] step by step."""

import itertools
import random

from narrowingbits.boxes import Box
from narrowingbits.coefs import picture_of
from narrowingbits.orders import ORDERS, lines_of, pieces_of
from narrowingbits.pictures import Picture
from narrowingbits.settings import Setting
from narrowingbits.streams import Stream

FIELDS = ("rect", "mode", "tx", "ty", "word", "planes", "layers", "order")
# One setting for each of many forms: rims below 0 and odd ones, tiles of one cell and more, words with
# both letters, all modes.
FORMS = (((0, 1, 0, 1), 0, 0, 0, ""),
         ((0, 2, 0, 1), 0, 1, 0, "X"),
         ((-1, 2, 0, 1), 0, 1, 0, "X"),
         ((-3, 2, -1, 2), 0, 1, 1, "YX"),
         ((-3, 2, 1, 4), 1, 1, 2, "XY"),
         ((1, 4, -5, -2), 2, 2, 1, "XYX"),
         ((-2, 1, 3, 5), 2, 0, 0, ""),
         ((5, 8, -2, 1), 1, 2, 2, "YXY"),
         ((-1, 1, -1, 1), 2, 1, 1, "XY"),
         ((3, 8, 3, 4), 0, 3, 0, "XXX"),
         ((0, 4, 0, 4), 0, 2, 2, "XYXY"),
         ((-7, -2, -3, 2), 2, 3, 3, "YYXXYX"))
LAYERS = ((9,), (1, 8), (3, 3, 3), (2, 1, 1, 3, 1, 1))


def some_settings(planes=3, layers=LAYERS):
    """Settings of all forms; the layers and the orders change from form to form."""
    found = []
    for number, form in enumerate(FORMS):
        found.append(Setting(*form, planes, layers[number % len(layers)], ORDERS[number * 7 % 24]))
    return found


def changed(setting, **fields):
    """The setting with other fields."""
    return Setting(**{**fields_of(setting), **fields})


def fields_of(setting):
    return {name: getattr(setting, name) for name in FIELDS}


def cells_of(rect):
    x0, x1, y0, y1 = rect
    return [(x, y) for y in range(y0, y1) for x in range(x0, x1)]


def channel_count(setting):
    return 1 if setting.mode == 0 else 3


def some_picture(setting, seed=0, most=5):
    """A picture that fits the setting, of numbers up to most in absolute value."""
    source = random.Random(seed)
    x0, x1, y0, y1 = setting.rect
    return Picture(setting.rect, [[[source.randint(-most, most) for _ in range(x0, x1)]
                                   for _ in range(y0, y1)] for _ in range(channel_count(setting))])


def coded_picture(setting, seed=0):
    """A picture that fits the setting and its planes: the one of some coefs."""
    source = random.Random(seed)
    most = 2 ** setting.planes - 1
    return picture_of(filled_rows(setting, lambda: source.choice((0, 0, source.randint(-most, most)))), setting)


def filled_rows(setting, make):
    """Rows for all lines of the setting, of things that are made one by one."""
    rows = []
    for line in lines_of(setting):
        x0, x1, y0, y1 = line[4]
        rows.append([[make() for _ in range(x0, x1)] for _ in range(y0, y1)] if x0 < x1 else [])
    return rows


def told(picture):
    """What a picture tells."""
    return (picture.rect, picture.channels)


def strange_pictures(picture):
    """Pictures with another rect or another number of channels."""
    x0, x1, y0, y1 = picture.rect
    channels = picture.channels
    return [Picture((x0 + 1, x1 + 1, y0, y1), channels), Picture((x0, x1, y0 - 1, y1 - 1), channels),
            Picture((x0, x1 + 1, y0, y1), [[row + [0] for row in rows] for rows in channels]),
            Picture(picture.rect, channels * 3 if len(channels) == 1 else channels[:1])]


def box_told(box):
    """What a box tells, None if it is none."""
    return None if box is None else (fields_of(box.setting), box.stretches())


def stream_told(stream):
    """What a stream tells."""
    return (fields_of(stream.setting), stream.pieces)


def some_box(setting, seed, most=300):
    """A box of at most so many members."""
    source = random.Random(seed)
    places = sum((rows != [] and len(rows) * len(rows[0]) for rows in filled_rows(setting, int)), 0)
    sizes = [1] * places
    for _ in range(60):
        place = source.randrange(places)
        size = sizes[place] + source.randint(1, 3)
        if size * product(sizes) // sizes[place] <= most:
            sizes[place] = size
    left = iter(sizes)

    def stretch():
        low = source.randint(-4, 4)
        return (low, low + next(left) - 1)

    return Box(setting, filled_rows(setting, stretch))


def product(sizes):
    number = 1
    for size in sizes:
        number *= size
    return number


def numbers_within(rows):
    """All rows of numbers within rows of stretches."""
    flat = [stretch for line in rows for row in line for stretch in row]
    for numbers in itertools.product(*[range(low, high + 1) for low, high in flat]):
        left = iter(numbers)
        yield [[[next(left) for _ in row] for row in line] for line in rows]


def members_of(box):
    """All members of a box."""
    return [picture_of(rows, box.setting) for rows in numbers_within(box.stretches())]


def below_of(setting):
    """For each coef (j, i, b, x, y) of a line channel two sets of cells, by the steps of its tile.

    Those below its first and below its second for the d of a step; those below it, and none, for a
    number of band 0.
    """
    found = {}
    tiles = {}
    for x, y in cells_of(setting.rect):
        tiles.setdefault((y // 2 ** setting.ty, x // 2 ** setting.tx), {})[x, y] = {(x, y)}
    for (j, i), low in tiles.items():
        for number, letter in enumerate(setting.word):
            pairs = {}
            for (x, y), cells in low.items():
                cell, side = ((x // 2, y), x % 2) if letter == "X" else ((x, y // 2), y % 2)
                pairs.setdefault(cell, {})[side] = cells
            low = {cell: set().union(*sides.values()) for cell, sides in pairs.items()}
            for (x, y), sides in pairs.items():
                if len(sides) == 2:
                    found[j, i, len(setting.word) - number, x, y] = (sides[0], sides[1])
        for (x, y), cells in low.items():
            found[j, i, 0, x, y] = (cells, set())
    return found


def stretch_table(box):
    """A dict from (c, j, i, b, x, y) to the stretch there."""
    return table_of(box.setting, box.stretches())


def table_of(setting, rows):
    table = {}
    for (c, j, i, b, rect), line in zip(lines_of(setting), rows):
        for x, y in cells_of(rect):
            table[c, j, i, b, x, y] = line[y - rect[2]][x - rect[0]]
    return table


def nearest_nought(stretch):
    low, high = stretch
    return min(range(low, high + 1), key=abs)


def spoilt(stream, seed):
    """The stream with some pieces cut, longer, with other bits, or wholly other ones."""
    source = random.Random(seed)
    pieces = []
    for piece in stream.pieces:
        way = source.randrange(8)
        if way == 0:
            piece = piece[:source.randint(0, len(piece))]
        elif way == 1:
            piece = piece + [source.randint(0, 1) for _ in range(source.randint(1, 4))]
        elif way == 2 and piece:
            piece[source.randrange(len(piece))] ^= 1
        elif way == 3:
            piece = [source.randint(0, 1) for _ in range(source.randint(0, 12))]
        pieces.append(piece)
    return Stream(stream.setting, pieces)


def piece_table(stream):
    """A dict from (c, j, i, b, l) to the piece."""
    return dict(zip(pieces_of(stream.setting), stream.pieces))
