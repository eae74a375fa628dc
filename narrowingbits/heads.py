"""Heads, indexes, payloads: point [13] of the document."""

from narrowingbits.bits import check_bits, count_at, count_bits, signed_at, signed_bits
from narrowingbits.errors import BadBits, BadField, Over
from narrowingbits.lines import MOST_LAYERS, layers_are_right
from narrowingbits.models import MOST_PLANES
from narrowingbits.orders import ORDERS, pieces_of
from narrowingbits.settings import (MOST_MODE, MOST_TILING, Setting, rim_is_right, side_is_right,
                                    word_is_right)
from narrowingbits.steps import MOST_LETTERS
from narrowingbits.streams import MOST_BITS, Stream

MARK = (1, 0, 1, 1, 0, 0, 1, 0)
# What a head tells, one thing after the other: "letters" is how many letters the word has, "many" how
# many layers there are; "layers" is one layer and comes as often as there are layers.
THINGS = ("mark", "x0", "width", "y0", "height", "mode", "tx", "ty", "letters", "word", "planes", "many",
          "layers", "order")
# The fields to which the things belong that are no fields themselves.
FIELDS = {"letters": "word", "many": "layers"}


def head_bits(setting):
    """The head of the setting."""
    x0, x1, y0, y1 = setting.rect
    bits = list(MARK) + signed_bits(x0) + count_bits(x1 - x0 - 1) + signed_bits(y0) + count_bits(y1 - y0 - 1)
    for count in (setting.mode, setting.tx, setting.ty, len(setting.word)):
        bits.extend(count_bits(count))
    bits.extend([0 if letter == "X" else 1 for letter in setting.word])
    bits.extend(count_bits(setting.planes - 1) + count_bits(len(setting.layers) - 1))
    for layer in setting.layers:
        bits.extend(count_bits(layer - 1))
    return bits + count_bits(ORDERS.index(setting.order))


def front_bits(stream):
    """Head and index."""
    bits = head_bits(stream.setting)
    for piece in stream.pieces:
        bits.extend(count_bits(len(piece)))
    return bits


def payload(stream):
    """The payload."""
    return [bit for piece in stream.pieces for bit in piece]


def stream_bits(stream):
    """Head, index and payload."""
    return front_bits(stream) + payload(stream)


def pieces_in(bits, lengths):
    """What is there of the pieces of these lengths, in the first bits of their payload."""
    pieces = []
    start = 0
    for length in lengths:
        pieces.append(bits[start:start + length])
        start = start + length
    return pieces


def read_stream(bits):
    """The stream whose bits these are."""
    check_bits(bits)
    reader = StreamReader()
    told = reader.read(bits)
    if reader.lacking != 0:
        raise BadBits()
    return Stream(reader.setting, pieces_in(told, reader.lengths))


class StreamReader:
    """Reads the bits of a stream in any cuts; a thing that is not whole yet waits for more bits.

    `lacking` is the number of payload bits that are still to come, None while it is not known.
    """

    def __init__(self):
        self.setting = None
        self.lengths = []
        self.lacking = None
        self._told = {"layers": []}
        # The things that are still to come, the next one last.
        self._queue = list(THINGS[::-1])
        self._waiting = []

    def copied(self):
        """A reader that stands where this one does."""
        reader = StreamReader()
        reader.setting = self.setting
        reader.lengths = list(self.lengths)
        reader.lacking = self.lacking
        reader._told = dict(self._told)
        reader._told["layers"] = list(self._told["layers"])
        reader._queue = list(self._queue)
        reader._waiting = list(self._waiting)
        return reader

    def read(self, bits):
        """Read more bits and return those of them that belong to the payload.

        Where it raises, the reader is of no more use: who wants to go on keeps a copy.
        """
        waiting = self._waiting + list(bits)
        start = 0
        while len(self._queue) > 0:
            told = thing_at(waiting, start, self._queue[-1], self._told)
            if told[0] == "short":
                self._waiting = waiting[start:]
                return []
            _, worth, start = told
            self._take(self._queue.pop(), worth)
        self._waiting = []
        behind = waiting[start:]
        lacking = sum(self.lengths) if self.lacking is None else self.lacking
        if len(behind) > lacking:
            raise Over()
        self.lacking = lacking - len(behind)
        return behind

    def _take(self, thing, worth):
        if thing == "length":
            if worth > MOST_BITS:
                raise BadField("length")
            self.lengths.append(worth)
            return
        if thing == "layers":
            self._told["layers"].append(worth + 1)
        else:
            self._told[thing] = worth
        if not is_borne(thing, self._told):
            raise BadField(field_of(thing))
        if thing == "many":
            self._queue.extend(["layers"] * worth)
        if thing == "order":
            self.setting = setting_told(self._told)
            self._queue = ["length"] * len(pieces_of(self.setting))


def field_of(thing):
    """The name of the field that is wrong where the thing is."""
    return FIELDS.get(thing, thing)


def thing_at(bits, start, thing, told):
    """Read a thing at a place as read_count does; the mark and the word are lists of bits."""
    if thing in ("mark", "word"):
        stop = start + (len(MARK) if thing == "mark" else told["letters"])
        return ("read", bits[start:stop], stop) if stop <= len(bits) else ("short",)
    found = signed_at(bits, start) if thing in ("x0", "y0") else count_at(bits, start)
    if found[0] == "long":
        raise BadField(field_of(thing))
    return found


def is_borne(thing, told):
    """Whether a setting would bear the thing that was told last."""
    worth = told[thing]
    if thing == "mark":
        return tuple(worth) == MARK
    if thing in ("x0", "y0"):
        return rim_is_right(worth)
    if thing == "width":
        return side_is_right(told["x0"], told["x0"] + worth + 1)
    if thing == "height":
        return side_is_right(told["y0"], told["y0"] + worth + 1)
    if thing == "word":
        return word_is_right(word_told(told), told["tx"], told["ty"])
    if thing == "layers":
        # Only all layers together can be wrong.
        return len(worth) <= told["many"] or layers_are_right(worth, told["planes"] + 1)
    greatest = {"mode": MOST_MODE, "tx": MOST_TILING, "ty": MOST_TILING, "letters": MOST_LETTERS,
                "planes": MOST_PLANES - 1, "many": MOST_LAYERS - 1, "order": len(ORDERS) - 1}
    return worth <= greatest[thing]


def word_told(told):
    """The word whose bits were told."""
    return "".join(["X" if bit == 0 else "Y" for bit in told["word"]])


def setting_told(told):
    """The setting of which all things were told."""
    rect = (told["x0"], told["x0"] + told["width"] + 1, told["y0"], told["y0"] + told["height"] + 1)
    return Setting(rect, told["mode"], told["tx"], told["ty"], word_told(told), told["planes"] + 1,
                   told["layers"], ORDERS[told["order"]])
