"""Heads and indexes of any things, right or wrong, by the words of points [2] and [13]."""

from narrowingbits.orders import ORDERS

MARK = [1, 0, 1, 1, 0, 0, 1, 0]
FAR = 2 ** 30


def count_code(n):
    digits = [int(digit) for digit in bin(n + 1)[2:]]
    return [0] * (len(digits) - 1) + digits


def signed_code(n):
    return count_code(2 * n if n >= 0 else -2 * n - 1)


def letter_bits(word):
    return [0 if letter == "X" else 1 for letter in word]


def parts_of(x0=0, width=2, y0=0, height=1, mode=0, tx=1, ty=0, word="X", planes=3, layers=(9,), order=13,
             mark=MARK, letters=None, many=None):
    """The bits of the things of a head, as pairs of the field's name and bits."""
    letters = len(word) if letters is None else letters
    many = len(layers) if many is None else many
    return [("mark", list(mark)), ("x0", signed_code(x0)), ("width", count_code(width - 1)),
            ("y0", signed_code(y0)), ("height", count_code(height - 1)), ("mode", count_code(mode)),
            ("tx", count_code(tx)), ("ty", count_code(ty)), ("word", count_code(letters)),
            ("word", letter_bits(word)), ("planes", count_code(planes - 1)), ("layers", count_code(many - 1))
            ] + [("layers", count_code(layer - 1)) for layer in layers] + [("order", count_code(order))]


def joined(parts):
    return [bit for _, bits in parts for bit in bits]


def head_of(setting):
    """The head of a setting."""
    x0, x1, y0, y1 = setting.rect
    return joined(parts_of(x0, x1 - x0, y0, y1 - y0, setting.mode, setting.tx, setting.ty, setting.word,
                           setting.planes, setting.layers, ORDERS.index(setting.order)))


def bits_of_stream(stream):
    """Head, index and payload of a stream."""
    bits = head_of(stream.setting)
    for piece in stream.pieces:
        bits += count_code(len(piece))
    for piece in stream.pieces:
        bits += piece
    return bits


def index_of(lengths):
    return [bit for length in lengths for bit in count_code(length)]


def wrong_beginnings():
    """Beginnings of bits (name, bits) whose last bit is the first one that shows a wrong field."""
    for at in range(8):
        mark = list(MARK)
        mark[at] = 1 - mark[at]
        yield "mark", mark
    yield "mark", [0] * 8
    yield "mark", MARK[:7] + [1]
    for name, number, things in (
            ("x0", 1, {"x0": FAR + 1}), ("x0", 1, {"x0": -FAR - 1}), ("x0", 1, {"x0": 2 ** 39}),
            ("width", 2, {"width": 33}), ("width", 2, {"width": 2 ** 40}), ("width", 2, {"x0": FAR, "width": 1}),
            ("width", 2, {"x0": FAR - 31, "width": 32}),
            ("y0", 3, {"y0": FAR + 1}), ("y0", 3, {"y0": -FAR - 1}),
            ("height", 4, {"height": 33}), ("height", 4, {"y0": FAR, "height": 1}),
            ("height", 4, {"y0": FAR - 3, "height": 4}),
            ("mode", 5, {"mode": 3}), ("mode", 5, {"mode": 2 ** 41 - 2}), ("tx", 6, {"tx": 6}),
            ("ty", 7, {"ty": 6}), ("ty", 7, {"ty": 99}),
            ("word", 8, {"letters": 11}), ("word", 8, {"letters": 2 ** 20}),
            ("word", 9, {"word": "XX"}), ("word", 9, {"word": "Y"}), ("word", 9, {"word": "XY"}),
            ("word", 9, {"word": "YX"}), ("word", 9, {"word": "XXXXXXXXXX"}),
            ("word", 9, {"word": "XXXXXYYYYY", "tx": 5, "ty": 4}),
            ("planes", 10, {"planes": 21}), ("layers", 11, {"many": 7}), ("layers", 11, {"many": 2 ** 30}),
            ("layers", 12, {"layers": (8,)}), ("layers", 12, {"layers": (10,)}),
            ("layers", 13, {"layers": (1, 7)}), ("layers", 13, {"layers": (9, 1)}),
            ("layers", 17, {"layers": (2, 1, 1, 1, 1, 1)}), ("layers", 17, {"layers": (99, 1, 1, 1, 1, 1)}),
            ("layers", 14, {"layers": (3, 3, 2 ** 39)}),
            ("order", 13, {"order": 24}), ("order", 13, {"order": 2 ** 35})):
        parts = parts_of(**things)
        assert parts[number][0] == name
        yield name, joined(parts[:number + 1])
    for things in ({}, {"layers": (3, 3, 3)}):
        parts = parts_of(**things)
        for number, (name, bits) in enumerate(parts):
            if name != "mark" and bits != letter_bits("X"):
                yield name, joined(parts[:number]) + [0] * 41
    head = joined(parts_of())
    for lengths in ((2 ** 20 + 1,), (6, 2 ** 20 + 1), (2 ** 20, 2 ** 41 - 2)):
        yield "length", head + index_of(lengths)
    yield "length", head + [0] * 41
    yield "length", head + index_of([6]) + [0] * 41


def too_many():
    """The bits of a head of more than 2000 pieces, as far as its order."""
    return joined(parts_of(width=32, height=32, mode=1, tx=0, ty=0, word="", planes=20, layers=(60,)))
